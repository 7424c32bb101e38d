/-
  AeadKnown's walk. No statement of the seat is proved here.
-/
import Derived.Test.YtppmodncljigcaaA6K
import Derived.Test.YtppmodncljigcaaQParts
import Derived.Great.BuildSlice
namespace Go.Proofs.Ytppmodncljigcaa
open Go.RowKit

/-- The key: 128, 129 and so on. -/
def kf6 : Nat → List Int
  | 0 => List.replicate 32 0
  | j + 1 => (kf6 j).set j (128 + (j : Int))
theorem kf6_len : ∀ j, (kf6 j).length = 32
  | 0 => rfl
  | j + 1 => by rw [kf6, List.length_set, kf6_len j]
def kl6 : List Int := [128, 129, 130, 131, 132, 133, 134, 135, 136, 137, 138, 139, 140, 141, 142, 143, 144, 145, 146, 147, 148, 149, 150, 151, 152, 153, 154, 155, 156, 157, 158, 159]
theorem kf6_all : kf6 32 = kl6 := by decide +kernel
theorem kl6_bn : Bn 32 kl6 := ⟨rfl, byt5 _ (by decide)⟩
def nl6 : List Int := [7, 0, 0, 0, 64, 65, 66, 67, 68, 69, 70, 71]
theorem nl6_bn : Bn 12 nl6 := ⟨rfl, byt5 _ (by decide)⟩
def al6 : List Int := [80, 81, 82, 83, 192, 193, 194, 195, 196, 197, 198, 199]
theorem al6_byt : Byt al6 := byt5 _ (by decide)
def tl6 : List Int := [76, 97, 100, 105, 101, 115, 32, 97, 110, 100, 32, 71, 101, 110, 116, 108, 101, 109, 101, 110, 32, 111, 102, 32, 116, 104, 101, 32, 99, 108, 97, 115, 115, 32, 111, 102, 32, 39, 57, 57, 58, 32, 73, 102, 32, 73, 32, 99, 111, 117, 108, 100, 32, 111, 102, 102, 101, 114, 32, 121, 111, 117, 32, 111, 110, 108, 121, 32, 111, 110, 101, 32, 116, 105, 112, 32, 102, 111, 114, 32, 116, 104, 101, 32, 102, 117, 116, 117, 114, 101, 44, 32, 115, 117, 110, 115, 99, 114, 101, 101, 110, 32, 119, 111, 117, 108, 100, 32, 98, 101, 32, 105, 116, 46]
theorem tl6_byt : Byt tl6 := byt5 _ (by decide)
def hl6 : List Int := [211, 26, 141, 52, 100, 142, 96, 219, 123, 134, 175, 188, 83, 239, 126, 194, 164, 173, 237, 81, 41, 110, 8, 254, 169, 226, 181, 167, 54, 238, 98, 214, 61, 190, 164, 94, 140, 169, 103, 18, 130, 250, 251, 105, 218, 146, 114, 139, 26, 113, 222, 10, 158, 6, 11, 41, 5, 214, 165, 182, 126, 205, 59, 54, 146, 221, 189, 127, 45, 119, 139, 140, 152, 3, 174, 227, 40, 9, 27, 88, 250, 179, 36, 228, 250, 214, 117, 148, 85, 133, 128, 139, 72, 49, 215, 188, 63, 244, 222, 240, 142, 75, 122, 157, 229, 118, 210, 101, 134, 206, 198, 75, 97, 22]
def gl6 : List Int := [26, 225, 11, 89, 79, 9, 226, 106, 126, 144, 46, 203, 208, 96, 6, 145]
theorem ap6 : ap kl6 1 nl6 tl6 = hl6 := by
  rw [← ap_enough _ _ _ _ 2 (by decide)]
  decide +kernel
theorem tt6_rfc : tt6 kl6 nl6 al6 hl6 = gl6 := by decide +kernel
theorem se6_rfc : se6 kl6 nl6 al6 tl6 = hl6 ++ gl6 := by
  unfold se6
  rw [ap6, tt6_rfc]
set_option maxRecDepth 8000 in
set_option maxHeartbeats 4000000 in
theorem aeadKnown_walk (w : World) : Calls Try.prog 3 #[] w fun e w' => e = .returned (.bool true) ∧ Below w.heap.size w w' := by
  go_enter Try.func3, Try.ntmps3
  go_upto_region 2 with fail
  have A1 : Hid (Ar (w.alloc (.cells #[.int .u8 0, .int .u8 0, .int .u8 0, .int .u8 0, .int .u8 0, .int .u8 0, .int .u8 0, .int .u8 0, .int .u8 0, .int .u8 0, .int .u8 0, .int .u8 0, .int .u8 0, .int .u8 0, .int .u8 0, .int .u8 0, .int .u8 0, .int .u8 0, .int .u8 0, .int .u8 0, .int .u8 0, .int .u8 0, .int .u8 0, .int .u8 0, .int .u8 0, .int .u8 0, .int .u8 0, .int .u8 0, .int .u8 0, .int .u8 0, .int .u8 0, .int .u8 0] 22)) w.heap.size 32 (List.map (Value.int .u8) (kf6 0))) := ar_box w (List.map (Value.int .u8) (List.replicate 32 0)) 32 rfl 22
  have HB : Hid (Below w.heap.size w (w.alloc (.cells #[.int .u8 0, .int .u8 0, .int .u8 0, .int .u8 0, .int .u8 0, .int .u8 0, .int .u8 0, .int .u8 0, .int .u8 0, .int .u8 0, .int .u8 0, .int .u8 0, .int .u8 0, .int .u8 0, .int .u8 0, .int .u8 0, .int .u8 0, .int .u8 0, .int .u8 0, .int .u8 0, .int .u8 0, .int .u8 0, .int .u8 0, .int .u8 0, .int .u8 0, .int .u8 0, .int .u8 0, .int .u8 0, .int .u8 0, .int .u8 0, .int .u8 0, .int .u8 0] 22))) := bel1 _ _
  generalize w.alloc (.cells #[.int .u8 0, .int .u8 0, .int .u8 0, .int .u8 0, .int .u8 0, .int .u8 0, .int .u8 0, .int .u8 0, .int .u8 0, .int .u8 0, .int .u8 0, .int .u8 0, .int .u8 0, .int .u8 0, .int .u8 0, .int .u8 0, .int .u8 0, .int .u8 0, .int .u8 0, .int .u8 0, .int .u8 0, .int .u8 0, .int .u8 0, .int .u8 0, .int .u8 0, .int .u8 0, .int .u8 0, .int .u8 0, .int .u8 0, .int .u8 0, .int .u8 0, .int .u8 0] 22) = W at *
  go_wp2
  go_loopw [2] (fun iv wr => ∃ j : Nat, j ≤ 32 ∧ iv = .int .i64 j ∧ Hid (Ar wr w.heap.size 32 (List.map (Value.int .u8) (kf6 j))) ∧ Hid (Below w.heap.size w wr)) (fun iv _ => 32 - (intOf iv).toNat)
  case atStart => exact ⟨0, Nat.zero_le _, rfl, A1, HB⟩
  case round =>
    clear A1 HB
    obtain ⟨j, hj, rfl, A1, HB⟩ := hrel
    by_cases hlt : j < 32
    · have g1 : (j : Int) < 32 := by omega
      have htn : (j : Int).toNat = j := by omega
      obtain ⟨cy, fy⟩ := A1.out.cell j hlt
      have hw1 : IntKind.u8.wrap (128 + (j : Int)) = 128 + (j : Int) := by rw [IntKind.wrap_u8]; omega
      go_wp2
      go_roundw
      case rel => exact ⟨j + 1, by omega, by go_num, by
        have := A1.out.set j hlt (.int .u8 (128 + (j : Int)))
        rw [← List.map_set] at this
        exact this, HB.out.setCell (p := ⟨w.heap.size, j, none⟩) (Nat.le_refl _) _⟩
      case measure => simp [intOf]; omega
    · have e : j = 32 := by omega
      subst e
      rw [kf6_all] at A1
      obtain ⟨_, _, hiK⟩ := bn32_cells kl6_bn
      have hlt' := hlt
      clear hlt hj
      go_upto_region 6 with fail
      generalize wr = Y at *
      have hcv1 := conv_mark (Y.alloc (.cells (List.map (Value.int .u8) al6).toArray 5)) Y.heap.size al6 12 12 (lt_new Y al6)
      have hN2 : ((Y.alloc (.cells (List.map (Value.int .u8) al6).toArray 5)).freeze ⟨Y.heap.size, al6.length, none⟩ 1).heap.size = Y.heap.size + 1 := by simp [World.freeze]
      have hL3 : Lt (((Y.alloc (.cells (List.map (Value.int .u8) al6).toArray 5)).freeze ⟨Y.heap.size, al6.length, none⟩ 1).alloc (.cells (List.map (Value.int .u8) tl6).toArray 5)) (Y.heap.size + 1) tl6 := by have := lt_new ((Y.alloc (.cells (List.map (Value.int .u8) al6).toArray 5)).freeze ⟨Y.heap.size, al6.length, none⟩ 1) tl6; rw [hN2] at this; exact this
      have hcv2 := conv_mark (((Y.alloc (.cells (List.map (Value.int .u8) al6).toArray 5)).freeze ⟨Y.heap.size, al6.length, none⟩ 1).alloc (.cells (List.map (Value.int .u8) tl6).toArray 5)) (Y.heap.size + 1) tl6 114 114 hL3
      have hE2 : Ext Y ((Y.alloc (.cells (List.map (Value.int .u8) al6).toArray 5)).freeze ⟨Y.heap.size, al6.length, none⟩ 1) := ext_frz ((Ext.refl Y).trans (bel1 _ _)) _ _ (Nat.le_refl _)
      have R1 : Hid (Rd ((((Y.alloc (.cells (List.map (Value.int .u8) al6).toArray 5)).freeze ⟨Y.heap.size, al6.length, none⟩ 1).alloc (.cells (List.map (Value.int .u8) tl6).toArray 5)).freeze ⟨Y.heap.size + 1, tl6.length, none⟩ 1) (some ⟨Y.heap.size, 0, none⟩) 12 12 al6) := ((((lt_new Y al6).rd al6_byt 12 (by decide)).frz _ _).below (bel1 _ _)).frz _ _
      have R2 : Hid (Rd ((((Y.alloc (.cells (List.map (Value.int .u8) al6).toArray 5)).freeze ⟨Y.heap.size, al6.length, none⟩ 1).alloc (.cells (List.map (Value.int .u8) tl6).toArray 5)).freeze ⟨Y.heap.size + 1, tl6.length, none⟩ 1) (some ⟨Y.heap.size + 1, 0, none⟩) 114 114 tl6) := (hL3.rd tl6_byt 114 (by decide)).frz _ _
      have hE4 : Ext Y ((((Y.alloc (.cells (List.map (Value.int .u8) al6).toArray 5)).freeze ⟨Y.heap.size, al6.length, none⟩ 1).alloc (.cells (List.map (Value.int .u8) tl6).toArray 5)).freeze ⟨Y.heap.size + 1, tl6.length, none⟩ 1) := ext_frz (hE2.trans (bel1 _ _)) _ _ (by omega)
      replace HB : Hid (Below w.heap.size w ((((Y.alloc (.cells (List.map (Value.int .u8) al6).toArray 5)).freeze ⟨Y.heap.size, al6.length, none⟩ 1).alloc (.cells (List.map (Value.int .u8) tl6).toArray 5)).freeze ⟨Y.heap.size + 1, tl6.length, none⟩ 1)) := HB.out.trans (Below.mono hE4 HB.out.size)
      clear hL3 hE2 hE4
      go_wp2_with (first
        | (refine wpList_load_mid rfl 22 (.tmp 1) rfl w.heap.size 0 rfl (List.map (Value.int .u8) kl6) _ A1.out.rng Try.underlying22 rfl hiK ?_)
        | (refine wpList_buildFlatAt rfl 23 5 12 _ rfl .u8 al6 Y.heap.size rfl (some 15) rfl Try.underlying23 (by kernel_rfl) (by kernel_rfl) (by decide) (by decide) (by decide) (by kernel_rfl) ?_)
        | (refine wpList_buildFlatAt rfl 23 5 114 _ rfl .u8 tl6 (Y.heap.size + 1) hN2 (some 17) rfl Try.underlying23 (by kernel_rfl) (by kernel_rfl) (by decide) (by decide) (by decide) (by kernel_rfl) ?_))
      refine (seal_c kl6 nl6 (some ⟨Y.heap.size, 0, none⟩) 12 12 al6 (some ⟨Y.heap.size + 1, 0, none⟩) 114 114 tl6 kl6_bn nl6_bn _ R1.out R2.out (by decide) (by decide)).mono ?_
      rintro e V ⟨gB, mB, XB, rfl, HmB, HXB, OB, -, hb⟩
      clear hcv1 hcv2 hN2 R1 R2 A1 hiK
      replace HB : Hid (Below w.heap.size w V) := HB.out.trans (hb.mono HB.out.size)
      clear hb
      have hmB : mB = 130 := HmB.out
      subst hmB
      replace HXB : Hid (XB = hl6 ++ gl6) := by unfold Hid; rw [HXB.out, se6_rfc]
      go_wp2_with fail
      refine (known6_any _).mono ?_
      rintro e V1 ⟨rfl, hb⟩
      replace OB : Hid (Ow V1 gB 130 XB) := OB.out.later hb
      replace HB : Hid (Below w.heap.size w V1) := HB.out.trans (hb.mono HB.out.size)
      clear hb
      have hX := HXB.out
      subst hX
      obtain ⟨x0, c0, -, e0, -, -⟩ := OB.out.cell 0 (by decide)
      have f0 : x0 = 211 := (Option.some.inj ((show (hl6 ++ gl6)[0]? = some 211 by decide +kernel).symm.trans e0)).symm
      subst f0
      obtain ⟨x1, c1, -, e1, -, -⟩ := OB.out.cell 1 (by decide)
      have f1 : x1 = 26 := (Option.some.inj ((show (hl6 ++ gl6)[1]? = some 26 by decide +kernel).symm.trans e1)).symm
      subst f1
      obtain ⟨x2, c2, -, e2, -, -⟩ := OB.out.cell 114 (by decide)
      have f2 : x2 = 26 := (Option.some.inj ((show (hl6 ++ gl6)[114]? = some 26 by decide +kernel).symm.trans e2)).symm
      subst f2
      obtain ⟨x3, c3, -, e3, -, -⟩ := OB.out.cell 115 (by decide)
      have f3 : x3 = 225 := (Option.some.inj ((show (hl6 ++ gl6)[115]? = some 225 by decide +kernel).symm.trans e3)).symm
      subst f3
      obtain ⟨x4, c4, -, e4, -, -⟩ := OB.out.cell 128 (by decide)
      have f4 : x4 = 6 := (Option.some.inj ((show (hl6 ++ gl6)[128]? = some 6 by decide +kernel).symm.trans e4)).symm
      subst f4
      obtain ⟨x5, c5, -, e5, -, -⟩ := OB.out.cell 129 (by decide)
      have f5 : x5 = 145 := (Option.some.inj ((show (hl6 ++ gl6)[129]? = some 145 by decide +kernel).symm.trans e5)).symm
      subst f5
      clear e0 e1 e2 e3 e4 e5 HXB HmB OB
      go_wp2
      go_ret
      exact ⟨rfl, HB.out⟩
end Go.Proofs.Ytppmodncljigcaa
