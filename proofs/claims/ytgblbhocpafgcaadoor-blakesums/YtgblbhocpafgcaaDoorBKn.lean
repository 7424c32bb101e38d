/-
  What chapter 7's law does first: its known. No statement of the seat is proved here.
-/
import Derived.Test.YtgblbhocpafgcaaDoorBSum
import Derived.Test.YtgblbhocpafgcaaDoorKEql
namespace Go.Proofs.YtgblbhocpafgcaaDoor
open Go.RowKit

def abc7 : List Int := [97, 98, 99]
def sabc : List Int := [80, 140, 94, 140, 50, 124, 20, 226, 225, 167, 43, 163, 78, 235, 69, 47, 55, 69, 139, 32, 158, 214, 58, 41, 77, 153, 155, 76, 134, 103, 89, 130]
theorem sum7_abc' : sum7 abc7 = sabc := sum7_abc
theorem sabc_bn : Bn 32 sabc := by rw [← sum7_abc']; exact sum7_bn _
set_option maxRecDepth 8000 in
set_option maxHeartbeats 4000000 in
theorem known7_any (w : World) (hg : Gb w) : Calls Tryd.prog 8 #[] w fun e w' => e = .returned (.bool true) ∧ Below w.heap.size w w' := by
  have HG : Hid (Gb w) := hg
  clear hg
  have v1 := Go.Lib.run_convert_bytes_const (P := Tryd.prog) w 28 5 #[.int .u8 97, .int .u8 98, .int .u8 99] 3 3 Tryd.underlying28 Tryd.underlying5
  simp only [List.size_toArray, List.length_cons, List.length_nil, Nat.zero_add, Nat.reduceAdd] at v1
  have HR1 : Hid (Rd (w.alloc (.cells #[.int .u8 97, .int .u8 98, .int .u8 99] 5 (3, 4))) (some ⟨w.heap.size, 0, none⟩) 3 3 abc7) := (rd_mark w [97, 98, 99] (byt5 _ (by decide)) 5 (3, 4) 3 (by decide) #[.int .u8 97, .int .u8 98, .int .u8 99] (fun i hi => by match i, hi with  | 0, _ => rfl | 1, _ => rfl | 2, _ => rfl))
  have HL1 : Hid (RdL ((w.alloc (.cells #[.int .u8 97, .int .u8 98, .int .u8 99] 5 (3, 4))).alloc (.cells #[.slice (some ⟨w.heap.size, 0, none⟩) 3 3] 28)) (some ⟨w.heap.size + 1, 0, none⟩) 1 [abc7]) := by have := RdL.one _ _ _ 3 _ 28 HR1.out; simpa [Hid] using this
  have HB1 : Hid (Below w.heap.size w ((w.alloc (.cells #[.int .u8 97, .int .u8 98, .int .u8 99] 5 (3, 4))).alloc (.cells #[.slice (some ⟨w.heap.size, 0, none⟩) 3 3] 28))) := bel2 _ _ _
  go_enter Tryd.func8, Tryd.ntmps8
  go_wp2_with fail
  refine (sum_c (some ⟨w.heap.size + 1, 0, none⟩) 1 1 [abc7] _ HL1.out (HG.out.later HB1.out) (by decide) (by decide)).mono ?_
  rintro e V1 ⟨S1, rfl, HS1, hb⟩
  have HB : Hid (Below w.heap.size w V1) := HB1.out.trans (hb.mono HB1.out.size)
  replace HS1 : Hid (S1 = sabc) := by rw [← sum7_abc']; exact HS1.out
  have hSn1 : Bn 32 S1 := by rw [HS1.out]; exact sabc_bn
  clear v1 HR1 HL1 HB1 hb
  obtain ⟨hlenb1, honeb1, hib1⟩ := bn32_cells hSn1
  obtain ⟨csb1, hcs⟩ : ∃ cs, cs = (List.map (Value.int .u8) S1) := ⟨_, rfl⟩
  rw [← hcs] at hlenb1 honeb1 hib1 ⊢
  have HCb1 : Hid (csb1 = (List.map (Value.int .u8) S1)) := hcs
  clear hcs
  have hth := there_new V1 32 #[.int .u8 0, .int .u8 0, .int .u8 0, .int .u8 0, .int .u8 0, .int .u8 0, .int .u8 0, .int .u8 0, .int .u8 0, .int .u8 0, .int .u8 0, .int .u8 0, .int .u8 0, .int .u8 0, .int .u8 0, .int .u8 0, .int .u8 0, .int .u8 0, .int .u8 0, .int .u8 0, .int .u8 0, .int .u8 0, .int .u8 0, .int .u8 0, .int .u8 0, .int .u8 0, .int .u8 0, .int .u8 0, .int .u8 0, .int .u8 0, .int .u8 0, .int .u8 0] rfl 25
  have Ab1 : Hid (Ar ((V1.alloc (.cells #[.int .u8 0, .int .u8 0, .int .u8 0, .int .u8 0, .int .u8 0, .int .u8 0, .int .u8 0, .int .u8 0, .int .u8 0, .int .u8 0, .int .u8 0, .int .u8 0, .int .u8 0, .int .u8 0, .int .u8 0, .int .u8 0, .int .u8 0, .int .u8 0, .int .u8 0, .int .u8 0, .int .u8 0, .int .u8 0, .int .u8 0, .int .u8 0, .int .u8 0, .int .u8 0, .int .u8 0, .int .u8 0, .int .u8 0, .int .u8 0, .int .u8 0, .int .u8 0] 25)).setCells V1.heap.size 0 csb1) V1.heap.size 32 (List.map (Value.int .u8) S1)) := by rw [← HCb1.out]; exact ar_var _ _ 32 rfl _ _ hlenb1
  have hX : Below V1.heap.size V1 ((V1.alloc (.cells #[.int .u8 0, .int .u8 0, .int .u8 0, .int .u8 0, .int .u8 0, .int .u8 0, .int .u8 0, .int .u8 0, .int .u8 0, .int .u8 0, .int .u8 0, .int .u8 0, .int .u8 0, .int .u8 0, .int .u8 0, .int .u8 0, .int .u8 0, .int .u8 0, .int .u8 0, .int .u8 0, .int .u8 0, .int .u8 0, .int .u8 0, .int .u8 0, .int .u8 0, .int .u8 0, .int .u8 0, .int .u8 0, .int .u8 0, .int .u8 0, .int .u8 0, .int .u8 0] 25)).setCells V1.heap.size 0 csb1) := bel_var _ _ _ _
  go_upto_region 2 with (refine wpList_store_mid rfl 25 (.tmp 1) (.tmp 6) rfl V1.heap.size 0 csb1.toArray rfl rfl (by simpa [hlenb1] using hth) (by simpa using hib1) (all_oneCell_toArray honeb1) ?_)
  clear hth honeb1 hlenb1
  obtain ⟨W1, hnew⟩ : ∃ W, W = ((V1.alloc (.cells #[.int .u8 0, .int .u8 0, .int .u8 0, .int .u8 0, .int .u8 0, .int .u8 0, .int .u8 0, .int .u8 0, .int .u8 0, .int .u8 0, .int .u8 0, .int .u8 0, .int .u8 0, .int .u8 0, .int .u8 0, .int .u8 0, .int .u8 0, .int .u8 0, .int .u8 0, .int .u8 0, .int .u8 0, .int .u8 0, .int .u8 0, .int .u8 0, .int .u8 0, .int .u8 0, .int .u8 0, .int .u8 0, .int .u8 0, .int .u8 0, .int .u8 0, .int .u8 0] 25)).setCells V1.heap.size 0 csb1) := ⟨_, rfl⟩
  obtain ⟨b1, hblk⟩ : ∃ q, q = V1.heap.size := ⟨_, rfl⟩
  rw [← hnew] at Ab1 hX ⊢
  rw [← hblk] at Ab1 ⊢
  rw [HCb1.out] at hib1
  clear hnew HCb1
  replace HB : Hid (Below w.heap.size w W1) := HB.out.trans (hX.mono HB.out.size)
  have kb1 : b1 < W1.heap.size := Ab1.out.lt (by decide)
  clear hX hblk
  have v1 := Go.Lib.run_convert_bytes_const (P := Tryd.prog) W1 28 5 #[.int .u8 97] 1 1 Tryd.underlying28 Tryd.underlying5
  simp only [List.size_toArray, List.length_cons, List.length_nil, Nat.zero_add, Nat.reduceAdd] at v1
  have v2 := Go.Lib.run_convert_bytes_const (P := Tryd.prog) (W1.alloc (.cells #[.int .u8 97] 5 (1, 2))) 28 5 #[.int .u8 98, .int .u8 99] 2 2 Tryd.underlying28 Tryd.underlying5
  simp only [List.size_toArray, List.length_cons, List.length_nil, Nat.zero_add, Nat.reduceAdd] at v2
  rw [show (W1.alloc (.cells #[.int .u8 97] 5 (1, 2))).heap.size = W1.heap.size + 1 by simp] at v2
  have HR1 : Hid (Rd (((W1.alloc (.cells #[.int .u8 97] 5 (1, 2))).alloc (.cells #[.int .u8 98, .int .u8 99] 5 (2, 3)))) (some ⟨W1.heap.size, 0, none⟩) 1 1 [97]) := (rd_mark W1 [97] (byt5 _ (by decide)) 5 (1, 2) 1 (by decide) #[.int .u8 97] (fun i hi => by match i, hi with  | 0, _ => rfl)).alloc _
  have HR2 : Hid (Rd (((W1.alloc (.cells #[.int .u8 97] 5 (1, 2))).alloc (.cells #[.int .u8 98, .int .u8 99] 5 (2, 3)))) (some ⟨W1.heap.size + 1, 0, none⟩) 2 2 [98, 99]) := by have := (rd_mark (W1.alloc (.cells #[.int .u8 97] 5 (1, 2))) [98, 99] (byt5 _ (by decide)) 5 (2, 3) 2 (by decide) #[.int .u8 98, .int .u8 99] (fun i hi => by match i, hi with  | 0, _ => rfl | 1, _ => rfl)); simpa [Hid] using this
  have HL1 : Hid (RdL (((W1.alloc (.cells #[.int .u8 97] 5 (1, 2))).alloc (.cells #[.int .u8 98, .int .u8 99] 5 (2, 3))).alloc (.cells #[.slice (some ⟨W1.heap.size, 0, none⟩) 1 1, .slice none 0 0, .slice (some ⟨W1.heap.size + 1, 0, none⟩) 2 2] 28)) (some ⟨W1.heap.size + 1 + 1, 0, none⟩) 3 [[97], [], [98, 99]]) := by have := RdL.three _ _ _ 1 _ none 0 0 [] _ _ 2 _ 28 HR1.out (Rd.nil _ none 0 (fun _ => rfl)) HR2.out; simpa [Hid] using this
  have HB1 : Hid (Below W1.heap.size W1 (((W1.alloc (.cells #[.int .u8 97] 5 (1, 2))).alloc (.cells #[.int .u8 98, .int .u8 99] 5 (2, 3))).alloc (.cells #[.slice (some ⟨W1.heap.size, 0, none⟩) 1 1, .slice none 0 0, .slice (some ⟨W1.heap.size + 1, 0, none⟩) 2 2] 28))) := bel3 _ _ _ _
  go_wp2_with fail
  refine (sum_c (some ⟨W1.heap.size + 1 + 1, 0, none⟩) 3 3 [[97], [], [98, 99]] _ HL1.out ((HG.out.later HB.out).later HB1.out) (by decide) (by decide)).mono ?_
  rintro e V2 ⟨S2, rfl, HS2, hb⟩
  have hb2 : Below W1.heap.size W1 V2 := HB1.out.trans (hb.mono HB1.out.size)
  replace Ab1 : Hid (Ar V2 b1 32 (List.map (Value.int .u8) S1)) := Ab1.out.later hb2
  replace HB : Hid (Below w.heap.size w V2) := HB.out.trans (hb2.mono HB.out.size)
  replace HS2 : Hid (S2 = sabc) := by rw [← sum7_abc']; exact HS2.out
  have hSn2 : Bn 32 S2 := by rw [HS2.out]; exact sabc_bn
  clear v1 v2 HR1 HR2 HL1 HB1 hb hb2
  obtain ⟨hlenb2, honeb2, hib2⟩ := bn32_cells hSn2
  obtain ⟨csb2, hcs⟩ : ∃ cs, cs = (List.map (Value.int .u8) S2) := ⟨_, rfl⟩
  rw [← hcs] at hlenb2 honeb2 hib2 ⊢
  have HCb2 : Hid (csb2 = (List.map (Value.int .u8) S2)) := hcs
  clear hcs
  have hth := there_new V2 32 #[.int .u8 0, .int .u8 0, .int .u8 0, .int .u8 0, .int .u8 0, .int .u8 0, .int .u8 0, .int .u8 0, .int .u8 0, .int .u8 0, .int .u8 0, .int .u8 0, .int .u8 0, .int .u8 0, .int .u8 0, .int .u8 0, .int .u8 0, .int .u8 0, .int .u8 0, .int .u8 0, .int .u8 0, .int .u8 0, .int .u8 0, .int .u8 0, .int .u8 0, .int .u8 0, .int .u8 0, .int .u8 0, .int .u8 0, .int .u8 0, .int .u8 0, .int .u8 0] rfl 25
  have Ab2 : Hid (Ar ((V2.alloc (.cells #[.int .u8 0, .int .u8 0, .int .u8 0, .int .u8 0, .int .u8 0, .int .u8 0, .int .u8 0, .int .u8 0, .int .u8 0, .int .u8 0, .int .u8 0, .int .u8 0, .int .u8 0, .int .u8 0, .int .u8 0, .int .u8 0, .int .u8 0, .int .u8 0, .int .u8 0, .int .u8 0, .int .u8 0, .int .u8 0, .int .u8 0, .int .u8 0, .int .u8 0, .int .u8 0, .int .u8 0, .int .u8 0, .int .u8 0, .int .u8 0, .int .u8 0, .int .u8 0] 25)).setCells V2.heap.size 0 csb2) V2.heap.size 32 (List.map (Value.int .u8) S2)) := by rw [← HCb2.out]; exact ar_var _ _ 32 rfl _ _ hlenb2
  have hX : Below V2.heap.size V2 ((V2.alloc (.cells #[.int .u8 0, .int .u8 0, .int .u8 0, .int .u8 0, .int .u8 0, .int .u8 0, .int .u8 0, .int .u8 0, .int .u8 0, .int .u8 0, .int .u8 0, .int .u8 0, .int .u8 0, .int .u8 0, .int .u8 0, .int .u8 0, .int .u8 0, .int .u8 0, .int .u8 0, .int .u8 0, .int .u8 0, .int .u8 0, .int .u8 0, .int .u8 0, .int .u8 0, .int .u8 0, .int .u8 0, .int .u8 0, .int .u8 0, .int .u8 0, .int .u8 0, .int .u8 0] 25)).setCells V2.heap.size 0 csb2) := bel_var _ _ _ _
  go_upto_region 3 with (refine wpList_store_mid rfl 25 (.tmp 2) (.tmp 12) rfl V2.heap.size 0 csb2.toArray rfl rfl (by simpa [hlenb2] using hth) (by simpa using hib2) (all_oneCell_toArray honeb2) ?_)
  clear hth honeb2 hlenb2
  obtain ⟨W2, hnew⟩ : ∃ W, W = ((V2.alloc (.cells #[.int .u8 0, .int .u8 0, .int .u8 0, .int .u8 0, .int .u8 0, .int .u8 0, .int .u8 0, .int .u8 0, .int .u8 0, .int .u8 0, .int .u8 0, .int .u8 0, .int .u8 0, .int .u8 0, .int .u8 0, .int .u8 0, .int .u8 0, .int .u8 0, .int .u8 0, .int .u8 0, .int .u8 0, .int .u8 0, .int .u8 0, .int .u8 0, .int .u8 0, .int .u8 0, .int .u8 0, .int .u8 0, .int .u8 0, .int .u8 0, .int .u8 0, .int .u8 0] 25)).setCells V2.heap.size 0 csb2) := ⟨_, rfl⟩
  obtain ⟨b2, hblk⟩ : ∃ q, q = V2.heap.size := ⟨_, rfl⟩
  rw [← hnew] at Ab2 hX ⊢
  rw [← hblk] at Ab2 ⊢
  rw [HCb2.out] at hib2
  clear hnew HCb2
  replace HB : Hid (Below w.heap.size w W2) := HB.out.trans (hX.mono HB.out.size)
  replace Ab1 : Hid (Ar W2 b1 32 (List.map (Value.int .u8) S1)) := Ab1.out.later hX
  clear hX hblk
  have heq : ∀ u, Sem.run Tryd.prog (binOp .eql 25 (.agg (List.map (Value.int .u8) S1).toArray) (.agg (List.map (Value.int .u8) S2).toArray)) u = .ok (.bool true) u := fun u => eql32 S1 S2 hSn1 (by rw [HS1.out, HS2.out]) u
  have A1s := Ab1.out
  rw [HS1.out] at A1s
  have c0 : W2.cell? ⟨b1, 0, none⟩ = some (.int .u8 80) := (A1s.cell 0 (by decide)).1
  have c1 : W2.cell? ⟨b1, 1, none⟩ = some (.int .u8 140) := (A1s.cell 1 (by decide)).1
  have c2 : W2.cell? ⟨b1, 2, none⟩ = some (.int .u8 94) := (A1s.cell 2 (by decide)).1
  have c3 : W2.cell? ⟨b1, 3, none⟩ = some (.int .u8 140) := (A1s.cell 3 (by decide)).1
  have c4 : W2.cell? ⟨b1, 30, none⟩ = some (.int .u8 89) := (A1s.cell 30 (by decide)).1
  have c5 : W2.cell? ⟨b1, 31, none⟩ = some (.int .u8 130) := (A1s.cell 31 (by decide)).1
  clear A1s
  go_wp2_with (first
    | (refine wpList_load_want (by rfl) 25 (.tmp 1) rfl b1 0 rfl (List.map (Value.int .u8) S1) _ Ab1.out.rng Tryd.underlying25 rfl hib1 ?_)
    | (refine wpList_load_want (by rfl) 25 (.tmp 2) rfl b2 0 rfl (List.map (Value.int .u8) S2) _ Ab2.out.rng Tryd.underlying25 rfl hib2 ?_))
  go_ret
  exact ⟨rfl, HB.out⟩
end Go.Proofs.YtgblbhocpafgcaaDoor
