/-
  KdfKnown's walk. No statement of the seat is proved here.
-/
import Derived.Test.YtiicepinnfgknaaDoorEKn
namespace Go.Proofs.YtiicepinnfgknaaDoor
open Go.RowKit

def a8 : List Int := [97]
set_option maxRecDepth 8000 in
set_option maxHeartbeats 8000000 in
theorem kdfKnown_walk (w : World) (hg : Gb w ∧ Gq w) : Calls Tryd.prog 3 #[] w fun e w' => e = .returned (.bool true) ∧ Below w.heap.size w w' := by
  have HG : Hid (Gb w) := hg.1
  have HQ : Hid (Gq w) := hg.2
  clear hg
  go_enter Tryd.func3, Tryd.ntmps3
  go_wp2_with fail
  refine (known8_any _ HG.out HQ.out).mono ?_
  rintro e V0 ⟨rfl, hb⟩
  have HB : Hid (Below w.heap.size w V0) := hb
  clear hb HQ
  go_wp2_with fail
  refine (derive_no (List.replicate 32 0) none 0 0 1 (by decide) (by decide) _).mono ?_
  rintro e V1 ⟨rfl, hb⟩
  replace HB : Hid (Below w.heap.size w V1) := HB.out.trans (hb.mono HB.out.size)
  clear hb
  go_wp2_with fail
  refine (derive_no (List.replicate 32 0) none 0 0 4 (by decide) (by decide) _).mono ?_
  rintro e V2 ⟨rfl, hb⟩
  replace HB : Hid (Below w.heap.size w V2) := HB.out.trans (hb.mono HB.out.size)
  clear hb
  obtain ⟨V3, hmk, HO, hb⟩ := make_l V2 64 (by decide)
  have hmk' : Sem.run Tryd.prog (Instr.makeSlice 27 (.int .i64 64) (.int .i64 64)) V2 = .ok (.slice (some ⟨V2.heap.size, 0, none⟩) 64 64) V3 := hmk
  have HO3 : Hid (Rd V3 (some ⟨V2.heap.size, 0, none⟩) 64 64 (List.replicate 64 0)) := HO.rd
  replace HB : Hid (Below w.heap.size w V3) := HB.out.trans (hb.mono HB.out.size)
  clear hmk HO hb
  have v1 := Go.Lib.run_convert_bytes_const (P := Tryd.prog) V3 27 5 #[.int .u8 97] 1 1 Tryd.underlying27 Tryd.underlying5
  simp only [List.size_toArray, List.length_cons, List.length_nil, Nat.zero_add, Nat.reduceAdd] at v1
  have HR1 : Hid (Rd (V3.alloc (.cells #[.int .u8 97] 5 (1, 2))) (some ⟨V3.heap.size, 0, none⟩) 1 1 a8) := (rd_mark V3 [97] (byt5 _ (by decide)) 5 (1, 2) 1 (by decide) #[.int .u8 97] (fun i hi => by match i, hi with  | 0, _ => rfl))
  have hb1 := bel1 V3 (.cells #[.int .u8 97] 5 (1, 2))
  replace HO3 : Hid (Rd (V3.alloc (.cells #[.int .u8 97] 5 (1, 2))) (some ⟨V2.heap.size, 0, none⟩) 64 64 (List.replicate 64 0)) := HO3.out.below hb1
  replace HB : Hid (Below w.heap.size w (V3.alloc (.cells #[.int .u8 97] 5 (1, 2)))) := HB.out.trans (hb1.mono HB.out.size)
  go_wp2_with fail
  refine (hmac_c (some ⟨V2.heap.size, 0, none⟩) 64 64 (List.replicate 64 0) (some ⟨V3.heap.size, 0, none⟩) 1 1 a8 _ HO3.out HR1.out (HG.out.later HB.out) (by decide) (by decide)).mono ?_
  rintro e V4 ⟨S1, rfl, HS1, hb⟩
  replace HB : Hid (Below w.heap.size w V4) := HB.out.trans (hb.mono HB.out.size)
  clear hb hb1 HO3 HR1 v1 hmk'
  have v1 := Go.Lib.run_convert_bytes_const (P := Tryd.prog) V4 27 5 #[.int .u8 97] 1 1 Tryd.underlying27 Tryd.underlying5
  simp only [List.size_toArray, List.length_cons, List.length_nil, Nat.zero_add, Nat.reduceAdd] at v1
  have HR1 : Hid (Rd (V4.alloc (.cells #[.int .u8 97] 5 (1, 2))) (some ⟨V4.heap.size, 0, none⟩) 1 1 a8) := (rd_mark V4 [97] (byt5 _ (by decide)) 5 (1, 2) 1 (by decide) #[.int .u8 97] (fun i hi => by match i, hi with  | 0, _ => rfl))
  have hb1 := bel1 V4 (.cells #[.int .u8 97] 5 (1, 2))
  replace HB : Hid (Below w.heap.size w (V4.alloc (.cells #[.int .u8 97] 5 (1, 2)))) := HB.out.trans (hb1.mono HB.out.size)
  go_wp2_with fail
  refine (hmac_c none 0 0 [] (some ⟨V4.heap.size, 0, none⟩) 1 1 a8 _ (Rd.nil _ none 0 (fun _ => rfl)) HR1.out (HG.out.later HB.out) (by decide) (by decide)).mono ?_
  rintro e V5 ⟨S2, rfl, HS2, hb⟩
  replace HB : Hid (Below w.heap.size w V5) := HB.out.trans (hb.mono HB.out.size)
  have hS1n : Bn 32 S1 := by rw [HS1.out]; exact hm8_bn _ _
  have heq : ∀ u, Sem.run Tryd.prog (binOp .eql 25 (.agg (List.map (Value.int .u8) S1).toArray) (.agg (List.map (Value.int .u8) S2).toArray)) u = .ok (.bool true) u := fun u => eql32 S1 S2 hS1n (by rw [HS1.out, HS2.out]; exact hm8_zeros [] 64 (by decide) a8) u
  clear hb hb1 HR1 v1
  go_wp2
  go_ret
  exact ⟨rfl, HB.out⟩
end Go.Proofs.YtiicepinnfgknaaDoor
