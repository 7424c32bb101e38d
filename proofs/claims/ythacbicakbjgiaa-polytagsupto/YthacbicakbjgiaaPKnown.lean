/-
  What the law's own 'known' does: chapter 5's example and RFC 8439's hold. No statement of the seat is proved here.
-/
import Derived.Test.YthacbicakbjgiaaPKey
namespace Go.Proofs.Ythacbicakbjgiaa
open Go.RowKit

/-- A row of a constant text, which bears the run-time's mark. -/
theorem rd_mark (w : World) (l : List Int) (hb : Byt l) (t : TypeId) (fz : Nat × Nat) (cap : Nat) (hc : l.length ≤ cap) (cs : Array Value) (hcs : ∀ i, i < l.length → cs[i]? = some (.int .u8 (l[i]?.getD 0))) : Rd (w.alloc (.cells cs t fz)) (some ⟨w.heap.size, 0, none⟩) l.length cap l :=
  ⟨rfl, hc, (fun h => by cases h), hb, fun _ => ⟨w.heap.size, 0, rfl, fun i hi => by
    rw [Nat.zero_add, cell_of_row _ _ _ _ _ _ (heap_alloc_new w _)]
    exact hcs i hi⟩⟩
theorem map_cells (l : List Int) : ∀ i, i < l.length → (List.map (Value.int .u8) l).toArray[i]? = some (.int .u8 (l[i]?.getD 0)) := fun i hi => by simp [List.getElem?_eq_getElem hi]
theorem kd5_bn : Bn 16 (kk5.drop 16) := ⟨rfl, kk5_bn.byt.drop 16⟩
theorem tt5_byt : Byt tt5 := byt5 _ (by decide)
theorem tt5_bn : Bn 16 tt5 := ⟨rfl, tt5_byt⟩
set_option maxRecDepth 8000 in
set_option maxHeartbeats 4000000 in
theorem known5_any (w : World) : Calls Try.prog 9 #[] w fun e w' => e = .returned (.bool true) ∧ Below w.heap.size w w' := by
  go_enter Try.func9, Try.ntmps9
  go_wp2_with fail
  refine (key5_c ks5 rfl kk5_ok _).mono ?_
  rintro e V1 ⟨l, rfl, HL, HBn, hb⟩
  have HB : Hid (Below w.heap.size w V1) := hb
  clear hb
  rw [kk5_hex] at HL
  have hl := HL.out
  subst hl
  clear HL HBn
  obtain ⟨hlen1, hone1, hi1⟩ := bn32_cells kk5_bn
  obtain ⟨cs1, hcs⟩ : ∃ cs, cs = (List.map (Value.int .u8) kk5) := ⟨_, rfl⟩
  rw [← hcs] at hlen1 hone1 hi1 ⊢
  have HC1 : Hid (cs1 = (List.map (Value.int .u8) kk5)) := hcs
  clear hcs
  have hth := there_new V1 32 #[.int .u8 0, .int .u8 0, .int .u8 0, .int .u8 0, .int .u8 0, .int .u8 0, .int .u8 0, .int .u8 0, .int .u8 0, .int .u8 0, .int .u8 0, .int .u8 0, .int .u8 0, .int .u8 0, .int .u8 0, .int .u8 0, .int .u8 0, .int .u8 0, .int .u8 0, .int .u8 0, .int .u8 0, .int .u8 0, .int .u8 0, .int .u8 0, .int .u8 0, .int .u8 0, .int .u8 0, .int .u8 0, .int .u8 0, .int .u8 0, .int .u8 0, .int .u8 0] rfl 22
  have A1 : Hid (Ar ((V1.alloc (.cells #[.int .u8 0, .int .u8 0, .int .u8 0, .int .u8 0, .int .u8 0, .int .u8 0, .int .u8 0, .int .u8 0, .int .u8 0, .int .u8 0, .int .u8 0, .int .u8 0, .int .u8 0, .int .u8 0, .int .u8 0, .int .u8 0, .int .u8 0, .int .u8 0, .int .u8 0, .int .u8 0, .int .u8 0, .int .u8 0, .int .u8 0, .int .u8 0, .int .u8 0, .int .u8 0, .int .u8 0, .int .u8 0, .int .u8 0, .int .u8 0, .int .u8 0, .int .u8 0] 22)).setCells V1.heap.size 0 cs1) V1.heap.size 32 cs1) := ar_var _ _ 32 rfl _ _ hlen1
  have hX : Below V1.heap.size V1 ((V1.alloc (.cells #[.int .u8 0, .int .u8 0, .int .u8 0, .int .u8 0, .int .u8 0, .int .u8 0, .int .u8 0, .int .u8 0, .int .u8 0, .int .u8 0, .int .u8 0, .int .u8 0, .int .u8 0, .int .u8 0, .int .u8 0, .int .u8 0, .int .u8 0, .int .u8 0, .int .u8 0, .int .u8 0, .int .u8 0, .int .u8 0, .int .u8 0, .int .u8 0, .int .u8 0, .int .u8 0, .int .u8 0, .int .u8 0, .int .u8 0, .int .u8 0, .int .u8 0, .int .u8 0] 22)).setCells V1.heap.size 0 cs1) := bel_var _ _ _ _
  have HX : Hid (Below V1.heap.size V1 ((V1.alloc (.cells #[.int .u8 0, .int .u8 0, .int .u8 0, .int .u8 0, .int .u8 0, .int .u8 0, .int .u8 0, .int .u8 0, .int .u8 0, .int .u8 0, .int .u8 0, .int .u8 0, .int .u8 0, .int .u8 0, .int .u8 0, .int .u8 0, .int .u8 0, .int .u8 0, .int .u8 0, .int .u8 0, .int .u8 0, .int .u8 0, .int .u8 0, .int .u8 0, .int .u8 0, .int .u8 0, .int .u8 0, .int .u8 0, .int .u8 0, .int .u8 0, .int .u8 0, .int .u8 0] 22)).setCells V1.heap.size 0 cs1)) := hX
  clear hX
  have hbb1 : w.heap.size ≤ V1.heap.size := HB.out.size
  replace HB : Hid (Below w.heap.size w ((V1.alloc (.cells #[.int .u8 0, .int .u8 0, .int .u8 0, .int .u8 0, .int .u8 0, .int .u8 0, .int .u8 0, .int .u8 0, .int .u8 0, .int .u8 0, .int .u8 0, .int .u8 0, .int .u8 0, .int .u8 0, .int .u8 0, .int .u8 0, .int .u8 0, .int .u8 0, .int .u8 0, .int .u8 0, .int .u8 0, .int .u8 0, .int .u8 0, .int .u8 0, .int .u8 0, .int .u8 0, .int .u8 0, .int .u8 0, .int .u8 0, .int .u8 0, .int .u8 0, .int .u8 0] 22)).setCells V1.heap.size 0 cs1)) := HB.out.trans (HX.out.mono HB.out.size)
  clear HX
  go_upto_region 2 with (refine wpList_store_mid rfl 22 (.tmp 1) (.tmp 4) rfl (V1.heap.size) 0 cs1.toArray rfl rfl (by simpa [hlen1] using hth) (by simpa using hi1) (all_oneCell_toArray hone1) ?_)
  clear hth
  generalize (V1.alloc (.cells #[.int .u8 0, .int .u8 0, .int .u8 0, .int .u8 0, .int .u8 0, .int .u8 0, .int .u8 0, .int .u8 0, .int .u8 0, .int .u8 0, .int .u8 0, .int .u8 0, .int .u8 0, .int .u8 0, .int .u8 0, .int .u8 0, .int .u8 0, .int .u8 0, .int .u8 0, .int .u8 0, .int .u8 0, .int .u8 0, .int .u8 0, .int .u8 0, .int .u8 0, .int .u8 0, .int .u8 0, .int .u8 0, .int .u8 0, .int .u8 0, .int .u8 0, .int .u8 0] 22)).setCells V1.heap.size 0 cs1 = W1 at *
  generalize V1.heap.size = b1 at *
  go_wp2_with (refine wpList_load_mid rfl 22 (.tmp 1) rfl b1 0 rfl cs1 _ A1.out.rng Try.underlying22 rfl hi1 ?_)
  rw [HC1.out]
  refine (tag_c none 0 0 kk5 [] kk5_bn _ (Rd.nil _ _ _ (fun _ => rfl)) (by decide)).mono ?_
  rintro e V2 ⟨T, rfl, HTg, -, hb⟩
  replace HB : Hid (Below w.heap.size w V2) := HB.out.trans (hb.mono HB.out.size)
  replace A1 : Hid (Ar V2 b1 32 cs1) := A1.out.later hb
  clear hb
  rw [tg_kk0] at HTg
  have hT := HTg.out
  subst hT
  clear HTg
  obtain ⟨hlen2, hone2, hi2⟩ := bn16_cells kd5_bn
  obtain ⟨cs2, hcs⟩ : ∃ cs, cs = (List.map (Value.int .u8) (kk5.drop 16)) := ⟨_, rfl⟩
  rw [← hcs] at hlen2 hone2 hi2 ⊢
  have HC2 : Hid (cs2 = (List.map (Value.int .u8) (kk5.drop 16))) := hcs
  clear hcs
  have hth := there_new V2 16 #[.int .u8 0, .int .u8 0, .int .u8 0, .int .u8 0, .int .u8 0, .int .u8 0, .int .u8 0, .int .u8 0, .int .u8 0, .int .u8 0, .int .u8 0, .int .u8 0, .int .u8 0, .int .u8 0, .int .u8 0, .int .u8 0] rfl 23
  have A2 : Hid (Ar ((V2.alloc (.cells #[.int .u8 0, .int .u8 0, .int .u8 0, .int .u8 0, .int .u8 0, .int .u8 0, .int .u8 0, .int .u8 0, .int .u8 0, .int .u8 0, .int .u8 0, .int .u8 0, .int .u8 0, .int .u8 0, .int .u8 0, .int .u8 0] 23)).setCells V2.heap.size 0 cs2) V2.heap.size 16 cs2) := ar_var _ _ 16 rfl _ _ hlen2
  have hX : Below V2.heap.size V2 ((V2.alloc (.cells #[.int .u8 0, .int .u8 0, .int .u8 0, .int .u8 0, .int .u8 0, .int .u8 0, .int .u8 0, .int .u8 0, .int .u8 0, .int .u8 0, .int .u8 0, .int .u8 0, .int .u8 0, .int .u8 0, .int .u8 0, .int .u8 0] 23)).setCells V2.heap.size 0 cs2) := bel_var _ _ _ _
  have HX : Hid (Below V2.heap.size V2 ((V2.alloc (.cells #[.int .u8 0, .int .u8 0, .int .u8 0, .int .u8 0, .int .u8 0, .int .u8 0, .int .u8 0, .int .u8 0, .int .u8 0, .int .u8 0, .int .u8 0, .int .u8 0, .int .u8 0, .int .u8 0, .int .u8 0, .int .u8 0] 23)).setCells V2.heap.size 0 cs2)) := hX
  clear hX
  have hbb2 : w.heap.size ≤ V2.heap.size := HB.out.size
  replace HB : Hid (Below w.heap.size w ((V2.alloc (.cells #[.int .u8 0, .int .u8 0, .int .u8 0, .int .u8 0, .int .u8 0, .int .u8 0, .int .u8 0, .int .u8 0, .int .u8 0, .int .u8 0, .int .u8 0, .int .u8 0, .int .u8 0, .int .u8 0, .int .u8 0, .int .u8 0] 23)).setCells V2.heap.size 0 cs2)) := HB.out.trans (HX.out.mono HB.out.size)
  replace A1 : Hid (Ar ((V2.alloc (.cells #[.int .u8 0, .int .u8 0, .int .u8 0, .int .u8 0, .int .u8 0, .int .u8 0, .int .u8 0, .int .u8 0, .int .u8 0, .int .u8 0, .int .u8 0, .int .u8 0, .int .u8 0, .int .u8 0, .int .u8 0, .int .u8 0] 23)).setCells V2.heap.size 0 cs2) b1 32 cs1) := A1.out.later HX.out
  clear HX
  go_upto_region 3 with (refine wpList_store_mid rfl 23 (.tmp 2) (.tmp 6) rfl (V2.heap.size) 0 cs2.toArray rfl rfl (by simpa [hlen2] using hth) (by simpa using hi2) (all_oneCell_toArray hone2) ?_)
  clear hth
  generalize (V2.alloc (.cells #[.int .u8 0, .int .u8 0, .int .u8 0, .int .u8 0, .int .u8 0, .int .u8 0, .int .u8 0, .int .u8 0, .int .u8 0, .int .u8 0, .int .u8 0, .int .u8 0, .int .u8 0, .int .u8 0, .int .u8 0, .int .u8 0] 23)).setCells V2.heap.size 0 cs2 = W2 at *
  generalize V2.heap.size = b2 at *
  have v1 := Go.Lib.run_convert_bytes_const (P := Try.prog) W2 25 5 #[.int .u8 67, .int .u8 114, .int .u8 121, .int .u8 112, .int .u8 116, .int .u8 111, .int .u8 103, .int .u8 114, .int .u8 97, .int .u8 112, .int .u8 104, .int .u8 105, .int .u8 99, .int .u8 32, .int .u8 70, .int .u8 111, .int .u8 114, .int .u8 117, .int .u8 109, .int .u8 32, .int .u8 82, .int .u8 101, .int .u8 115, .int .u8 101, .int .u8 97, .int .u8 114, .int .u8 99, .int .u8 104, .int .u8 32, .int .u8 71, .int .u8 114, .int .u8 111, .int .u8 117, .int .u8 112] 34 34 Try.underlying25 Try.underlying5
  simp only [List.size_toArray, List.length_cons, List.length_nil, Nat.zero_add, Nat.reduceAdd] at v1
  go_wp2_with (refine wpList_load_mid rfl 22 (.tmp 1) rfl b1 0 rfl cs1 _ A1.out.rng Try.underlying22 rfl hi1 ?_)
  rw [HC1.out]
  have hrd : Rd (W2.alloc (.cells #[.int .u8 67, .int .u8 114, .int .u8 121, .int .u8 112, .int .u8 116, .int .u8 111, .int .u8 103, .int .u8 114, .int .u8 97, .int .u8 112, .int .u8 104, .int .u8 105, .int .u8 99, .int .u8 32, .int .u8 70, .int .u8 111, .int .u8 114, .int .u8 117, .int .u8 109, .int .u8 32, .int .u8 82, .int .u8 101, .int .u8 115, .int .u8 101, .int .u8 97, .int .u8 114, .int .u8 99, .int .u8 104, .int .u8 32, .int .u8 71, .int .u8 114, .int .u8 111, .int .u8 117, .int .u8 112] 5 (34, 35))) (some ⟨W2.heap.size, 0, none⟩) 34 34 uu5 := rd_mark W2 uu5 uu5_byt 5 (34, 35) 34 (by decide) (List.map (Value.int .u8) uu5).toArray (map_cells uu5)
  have hbm : Below W2.heap.size W2 (W2.alloc (.cells #[.int .u8 67, .int .u8 114, .int .u8 121, .int .u8 112, .int .u8 116, .int .u8 111, .int .u8 103, .int .u8 114, .int .u8 97, .int .u8 112, .int .u8 104, .int .u8 105, .int .u8 99, .int .u8 32, .int .u8 70, .int .u8 111, .int .u8 114, .int .u8 117, .int .u8 109, .int .u8 32, .int .u8 82, .int .u8 101, .int .u8 115, .int .u8 101, .int .u8 97, .int .u8 114, .int .u8 99, .int .u8 104, .int .u8 32, .int .u8 71, .int .u8 114, .int .u8 111, .int .u8 117, .int .u8 112] 5 (34, 35))) := bel1 _ _
  replace HB : Hid (Below w.heap.size w (W2.alloc (.cells #[.int .u8 67, .int .u8 114, .int .u8 121, .int .u8 112, .int .u8 116, .int .u8 111, .int .u8 103, .int .u8 114, .int .u8 97, .int .u8 112, .int .u8 104, .int .u8 105, .int .u8 99, .int .u8 32, .int .u8 70, .int .u8 111, .int .u8 114, .int .u8 117, .int .u8 109, .int .u8 32, .int .u8 82, .int .u8 101, .int .u8 115, .int .u8 101, .int .u8 97, .int .u8 114, .int .u8 99, .int .u8 104, .int .u8 32, .int .u8 71, .int .u8 114, .int .u8 111, .int .u8 117, .int .u8 112] 5 (34, 35)))) := HB.out.trans (hbm.mono HB.out.size)
  replace A1 : Hid (Ar (W2.alloc (.cells #[.int .u8 67, .int .u8 114, .int .u8 121, .int .u8 112, .int .u8 116, .int .u8 111, .int .u8 103, .int .u8 114, .int .u8 97, .int .u8 112, .int .u8 104, .int .u8 105, .int .u8 99, .int .u8 32, .int .u8 70, .int .u8 111, .int .u8 114, .int .u8 117, .int .u8 109, .int .u8 32, .int .u8 82, .int .u8 101, .int .u8 115, .int .u8 101, .int .u8 97, .int .u8 114, .int .u8 99, .int .u8 104, .int .u8 32, .int .u8 71, .int .u8 114, .int .u8 111, .int .u8 117, .int .u8 112] 5 (34, 35))) b1 32 cs1) := A1.out.later hbm
  replace A2 : Hid (Ar (W2.alloc (.cells #[.int .u8 67, .int .u8 114, .int .u8 121, .int .u8 112, .int .u8 116, .int .u8 111, .int .u8 103, .int .u8 114, .int .u8 97, .int .u8 112, .int .u8 104, .int .u8 105, .int .u8 99, .int .u8 32, .int .u8 70, .int .u8 111, .int .u8 114, .int .u8 117, .int .u8 109, .int .u8 32, .int .u8 82, .int .u8 101, .int .u8 115, .int .u8 101, .int .u8 97, .int .u8 114, .int .u8 99, .int .u8 104, .int .u8 32, .int .u8 71, .int .u8 114, .int .u8 111, .int .u8 117, .int .u8 112] 5 (34, 35))) b2 16 cs2) := A2.out.later hbm
  refine (tag_c (some ⟨W2.heap.size, 0, none⟩) 34 34 kk5 uu5 kk5_bn _ hrd (by decide)).mono ?_
  rintro e V3 ⟨T, rfl, HTg, -, hb⟩
  replace HB : Hid (Below w.heap.size w V3) := HB.out.trans (hb.mono HB.out.size)
  replace A1 : Hid (Ar V3 b1 32 cs1) := A1.out.later hb
  replace A2 : Hid (Ar V3 b2 16 cs2) := A2.out.later hb
  clear hb hbm hrd v1
  rw [tg_kku] at HTg
  have hT := HTg.out
  subst hT
  clear HTg
  obtain ⟨hlen3, hone3, hi3⟩ := bn16_cells tt5_bn
  obtain ⟨cs3, hcs⟩ : ∃ cs, cs = (List.map (Value.int .u8) tt5) := ⟨_, rfl⟩
  rw [← hcs] at hlen3 hone3 hi3 ⊢
  have HC3 : Hid (cs3 = (List.map (Value.int .u8) tt5)) := hcs
  clear hcs
  have hth := there_new V3 16 #[.int .u8 0, .int .u8 0, .int .u8 0, .int .u8 0, .int .u8 0, .int .u8 0, .int .u8 0, .int .u8 0, .int .u8 0, .int .u8 0, .int .u8 0, .int .u8 0, .int .u8 0, .int .u8 0, .int .u8 0, .int .u8 0] rfl 23
  have A3 : Hid (Ar ((V3.alloc (.cells #[.int .u8 0, .int .u8 0, .int .u8 0, .int .u8 0, .int .u8 0, .int .u8 0, .int .u8 0, .int .u8 0, .int .u8 0, .int .u8 0, .int .u8 0, .int .u8 0, .int .u8 0, .int .u8 0, .int .u8 0, .int .u8 0] 23)).setCells V3.heap.size 0 cs3) V3.heap.size 16 cs3) := ar_var _ _ 16 rfl _ _ hlen3
  have hX : Below V3.heap.size V3 ((V3.alloc (.cells #[.int .u8 0, .int .u8 0, .int .u8 0, .int .u8 0, .int .u8 0, .int .u8 0, .int .u8 0, .int .u8 0, .int .u8 0, .int .u8 0, .int .u8 0, .int .u8 0, .int .u8 0, .int .u8 0, .int .u8 0, .int .u8 0] 23)).setCells V3.heap.size 0 cs3) := bel_var _ _ _ _
  have HX : Hid (Below V3.heap.size V3 ((V3.alloc (.cells #[.int .u8 0, .int .u8 0, .int .u8 0, .int .u8 0, .int .u8 0, .int .u8 0, .int .u8 0, .int .u8 0, .int .u8 0, .int .u8 0, .int .u8 0, .int .u8 0, .int .u8 0, .int .u8 0, .int .u8 0, .int .u8 0] 23)).setCells V3.heap.size 0 cs3)) := hX
  clear hX
  have hbb3 : w.heap.size ≤ V3.heap.size := HB.out.size
  replace HB : Hid (Below w.heap.size w ((V3.alloc (.cells #[.int .u8 0, .int .u8 0, .int .u8 0, .int .u8 0, .int .u8 0, .int .u8 0, .int .u8 0, .int .u8 0, .int .u8 0, .int .u8 0, .int .u8 0, .int .u8 0, .int .u8 0, .int .u8 0, .int .u8 0, .int .u8 0] 23)).setCells V3.heap.size 0 cs3)) := HB.out.trans (HX.out.mono HB.out.size)
  replace A1 : Hid (Ar ((V3.alloc (.cells #[.int .u8 0, .int .u8 0, .int .u8 0, .int .u8 0, .int .u8 0, .int .u8 0, .int .u8 0, .int .u8 0, .int .u8 0, .int .u8 0, .int .u8 0, .int .u8 0, .int .u8 0, .int .u8 0, .int .u8 0, .int .u8 0] 23)).setCells V3.heap.size 0 cs3) b1 32 cs1) := A1.out.later HX.out
  replace A2 : Hid (Ar ((V3.alloc (.cells #[.int .u8 0, .int .u8 0, .int .u8 0, .int .u8 0, .int .u8 0, .int .u8 0, .int .u8 0, .int .u8 0, .int .u8 0, .int .u8 0, .int .u8 0, .int .u8 0, .int .u8 0, .int .u8 0, .int .u8 0, .int .u8 0] 23)).setCells V3.heap.size 0 cs3) b2 16 cs2) := A2.out.later HX.out
  clear HX
  go_upto_region 4 with (refine wpList_store_mid rfl 23 (.tmp 3) (.tmp 10) rfl (V3.heap.size) 0 cs3.toArray rfl rfl (by simpa [hlen3] using hth) (by simpa using hi3) (all_oneCell_toArray hone3) ?_)
  clear hth
  generalize (V3.alloc (.cells #[.int .u8 0, .int .u8 0, .int .u8 0, .int .u8 0, .int .u8 0, .int .u8 0, .int .u8 0, .int .u8 0, .int .u8 0, .int .u8 0, .int .u8 0, .int .u8 0, .int .u8 0, .int .u8 0, .int .u8 0, .int .u8 0] 23)).setCells V3.heap.size 0 cs3 = W3 at *
  generalize V3.heap.size = b3 at *
  rw [HC1.out] at A1
  rw [HC2.out] at A2
  rw [HC3.out] at A3
  clear hlen1 hone1 hi1 hlen2 hone2 hi2 hlen3 hone3 hi3
  refine wp_region_noPanic ?_
  refine wp_region_held_drew (S := Ext W3) (by kernel_rfl) (Ext.refl _).drew (fun hH => ?_)
  change wpAnyH _ _ _ _ _ _ #[false, false, false, false, false, false, false, false, false, false, false, false, false] _ _
  refine wpAnyH_take (i := 0) (oi := ?o0n) (v := ?v0n) ?h0n (by kernel_rfl) ?f0n ?r0n (fun _ _ _ h => h) (Or.inl ⟨?w0n, ?y0n⟩) (by assumption) ?t0n
  case h0n => simp only [List.getElem?_toArray]; rfl
  case f0n => kernel_rfl
  case r0n => kernel_rfl
  case w0n => rfl
  case y0n => (intro u hu; (go_simp) <;> with_reducible rfl)
  try simp only [Act.put, List.setIfInBounds_toArray, List.set_cons_zero, List.set_cons_succ]
  have sx : ∀ u, Ext W3 u → (convert 25 9 (.slice (some ⟨b2, 0, none⟩) 16 16)).run Try.prog u = .ok (.string (strOfNums (kk5.drop 16))) u := fun u hu => str_of ((A2.out.later hu).rd_all (kk5_bn.byt.drop 16) 16 (by decide))
  refine wpAnyH_take (i := 1) (oi := ?o1n) (v := ?v1n) ?h1n (by kernel_rfl) ?f1n ?r1n (fun _ _ _ h => h) (Or.inl ⟨?w1n, ?y1n⟩) (by assumption) ?t1n
  case h1n => simp only [List.getElem?_toArray]; rfl
  case f1n => kernel_rfl
  case r1n => kernel_rfl
  case w1n => rfl
  case y1n => (intro u hu; (have h1 := sx u hu; go_simp) <;> with_reducible rfl)
  try simp only [Act.put, List.setIfInBounds_toArray, List.set_cons_zero, List.set_cons_succ]
  clear sx
  refine wpAnyH_take (i := 2) (oi := ?o2n) (v := ?v2n) ?h2n (by kernel_rfl) ?f2n ?r2n (fun _ _ _ h => h) (Or.inl ⟨?w2n, ?y2n⟩) (by assumption) ?t2n
  case h2n => simp only [List.getElem?_toArray]; rfl
  case f2n => kernel_rfl
  case r2n => kernel_rfl
  case w2n => rfl
  case y2n => (intro u hu; (go_simp) <;> with_reducible rfl)
  try simp only [Act.put, List.setIfInBounds_toArray, List.set_cons_zero, List.set_cons_succ]
  have sx : ∀ u, Ext W3 u → (convert 25 9 (.slice (some ⟨b1, 16, none⟩) 16 16)).run Try.prog u = .ok (.string (strOfNums (kk5.drop 16))) u := fun u hu => str_of ((A1.out.later hu).rdFrom kk5_bn.byt 16 (by decide))
  refine wpAnyH_take (i := 3) (oi := ?o3n) (v := ?v3n) ?h3n (by kernel_rfl) ?f3n ?r3n (fun _ _ _ h => h) (Or.inl ⟨?w3n, ?y3n⟩) (by assumption) ?t3n
  case h3n => simp only [List.getElem?_toArray]; rfl
  case f3n => kernel_rfl
  case r3n => kernel_rfl
  case w3n => rfl
  case y3n => (intro u hu; (have h1 := sx u hu; go_simp) <;> with_reducible rfl)
  try simp only [Act.put, List.setIfInBounds_toArray, List.set_cons_zero, List.set_cons_succ]
  clear sx
  refine wpAnyH_take (i := 4) (oi := ?o4n) (v := ?v4n) ?h4n (by kernel_rfl) ?f4n ?r4n (fun _ _ _ h => h) (Or.inl ⟨?w4n, ?y4n⟩) (by assumption) ?t4n
  case h4n => simp only [List.getElem?_toArray]; rfl
  case f4n => kernel_rfl
  case r4n => kernel_rfl
  case w4n => rfl
  case y4n => (intro u hu; (go_simp) <;> with_reducible rfl)
  try simp only [Act.put, List.setIfInBounds_toArray, List.set_cons_zero, List.set_cons_succ]
  refine wpAnyH_take (i := 5) (oi := ?o5n) (v := ?v5n) ?h5n (by kernel_rfl) ?f5n ?r5n (fun _ _ _ h => h) (Or.inl ⟨?w5n, ?y5n⟩) (by assumption) ?t5n
  case h5n => simp only [List.getElem?_toArray]; rfl
  case f5n => kernel_rfl
  case r5n => kernel_rfl
  case w5n => rfl
  case y5n => (intro u hu; (go_simp) <;> with_reducible rfl)
  try simp only [Act.put, List.setIfInBounds_toArray, List.set_cons_zero, List.set_cons_succ]
  refine wpAnyH_take (i := 6) (oi := ?o6n) (v := ?v6n) ?h6n (by kernel_rfl) ?f6n ?r6n (fun _ _ _ h => h) (Or.inl ⟨?w6n, ?y6n⟩) (by assumption) ?t6n
  case h6n => simp only [List.getElem?_toArray]; rfl
  case f6n => kernel_rfl
  case r6n => kernel_rfl
  case w6n => rfl
  case y6n => (intro u hu; (go_simp) <;> with_reducible rfl)
  try simp only [Act.put, List.setIfInBounds_toArray, List.set_cons_zero, List.set_cons_succ]
  have sx : ∀ u, Ext W3 u → (convert 25 9 (.slice (some ⟨b3, 0, none⟩) 16 16)).run Try.prog u = .ok (.string (strOfNums tt5)) u := fun u hu => str_of ((A3.out.later hu).rd_all tt5_byt 16 (by decide))
  refine wpAnyH_take (i := 7) (oi := ?o7n) (v := ?v7n) ?h7n (by kernel_rfl) ?f7n ?r7n (fun _ _ _ h => h) (Or.inl ⟨?w7n, ?y7n⟩) (by assumption) ?t7n
  case h7n => simp only [List.getElem?_toArray]; rfl
  case f7n => kernel_rfl
  case r7n => kernel_rfl
  case w7n => rfl
  case y7n => (intro u hu; (have h1 := sx u hu; go_simp) <;> with_reducible rfl)
  try simp only [Act.put, List.setIfInBounds_toArray, List.set_cons_zero, List.set_cons_succ]
  clear sx
  refine wpAnyH_ready (rs := [8]) (by kernel_rfl) (by simp) ?_
  refine AllReadyH.cons (o := ?o8n) ?h8n (fun K hK => ?_) AllReadyH.nil
  case h8n => simp only [List.getElem?_toArray]; rfl
  go_simp
  refine (hex5_c ts5 16 rfl (by decide) ts5_ok _).mono ?_
  rintro e V4 ⟨v, rfl, HO, hb⟩
  obtain ⟨ax, cx, rfl⟩ := owns_shape HO.out
  refine hK.out _ _ (hH.trans hb) (fun hH' => ?_)
  clear hK K hH
  have hH := hH'
  clear hH'
  try simp only [List.setIfInBounds_toArray, List.set]
  have HH : Hid (Ext W3 V4) := hH
  have HRx : Hid (Rd V4 ax 16 cx tt5) := by unfold Hid; rw [← tt5_hex]; exact Rd.owns (by rw [tt5_hex]; exact tt5_byt) HO.out
  refine wpAnyH_mono (S' := Ext V4) (fun u hu => Ext.trans hH hu) ?_
  clear hH hb HO
  have hH := Ext.refl V4
  have sx : ∀ u, Ext V4 u → (convert 25 9 (.slice ax 16 cx)).run Try.prog u = .ok (.string (strOfNums tt5)) u := fun u hu => str_of (HRx.out.below hu)
  refine wpAnyH_take (i := 9) (oi := ?o9n) (v := ?v9n) ?h9n (by kernel_rfl) ?f9n ?r9n (fun _ _ _ h => h) (Or.inl ⟨?w9n, ?y9n⟩) (by assumption) ?t9n
  case h9n => simp only [List.getElem?_toArray]; rfl
  case f9n => kernel_rfl
  case r9n => kernel_rfl
  case w9n => rfl
  case y9n => (intro u hu; (have h1 := sx u hu; go_simp) <;> with_reducible rfl)
  try simp only [Act.put, List.setIfInBounds_toArray, List.set_cons_zero, List.set_cons_succ]
  clear sx
  refine wpAnyH_take (i := 10) (oi := ?o10n) (v := ?v10n) ?h10n (by kernel_rfl) ?f10n ?r10n (fun _ _ _ h => h) (Or.inl ⟨?w10n, ?y10n⟩) (by assumption) ?t10n
  case h10n => simp only [List.getElem?_toArray]; rfl
  case f10n => kernel_rfl
  case r10n => kernel_rfl
  case w10n => rfl
  case y10n => (intro u hu; (go_simp) <;> with_reducible rfl)
  try simp only [Act.put, List.setIfInBounds_toArray, List.set_cons_zero, List.set_cons_succ]
  refine wpAnyH_take (i := 11) (oi := ?o11n) (v := ?v11n) ?h11n (by kernel_rfl) ?f11n ?r11n (fun _ _ _ h => h) (Or.inl ⟨?w11n, ?y11n⟩) (by assumption) ?t11n
  case h11n => simp only [List.getElem?_toArray]; rfl
  case f11n => kernel_rfl
  case r11n => kernel_rfl
  case w11n => rfl
  case y11n => (intro u hu; (go_simp) <;> with_reducible rfl)
  try simp only [Act.put, List.setIfInBounds_toArray, List.set_cons_zero, List.set_cons_succ]
  refine wpAnyH_take (i := 12) (oi := ?o12n) (v := ?v12n) ?h12n (by kernel_rfl) ?f12n ?r12n (fun _ _ _ h => h) (Or.inl ⟨?w12n, ?y12n⟩) (by assumption) ?t12n
  case h12n => simp only [List.getElem?_toArray]; rfl
  case f12n => kernel_rfl
  case r12n => kernel_rfl
  case w12n => rfl
  case y12n => (intro u hu; (go_simp) <;> with_reducible rfl)
  try simp only [Act.put, List.setIfInBounds_toArray, List.set_cons_zero, List.set_cons_succ]
  refine wpAnyH_done (by kernel_rfl) ?_ _
  refine NoPanic.normal ?_
  go_wp2
  go_ret
  exact ⟨rfl, HB.out.trans (Below.mono (Ext.trans HH.out hH) HB.out.size)⟩
end Go.Proofs.Ythacbicakbjgiaa
