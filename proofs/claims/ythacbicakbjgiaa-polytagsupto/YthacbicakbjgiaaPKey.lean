/-
  What the law's own 'key' and 'known' do: chapter 5's example and RFC 8439's hold. No statement of the seat is proved here.
-/
import Derived.Test.YthacbicakbjgiaaPHex
import Derived.Test.YthacbicakbjgiaaPTag
import Derived.Test.YthacbicakbjgiaaKOwn
import Derived.Lib.SlBytesConst
namespace Go.Proofs.Ythacbicakbjgiaa
open Go.RowKit

def kk5 : List Int := [133, 214, 190, 120, 87, 85, 109, 51, 127, 68, 82, 254, 66, 213, 6, 168, 1, 3, 128, 138, 251, 13, 178, 253, 74, 191, 246, 175, 65, 73, 245, 27]
def uu5 : List Int := [67, 114, 121, 112, 116, 111, 103, 114, 97, 112, 104, 105, 99, 32, 70, 111, 114, 117, 109, 32, 82, 101, 115, 101, 97, 114, 99, 104, 32, 71, 114, 111, 117, 112]
def tt5 : List Int := [168, 6, 29, 193, 48, 81, 54, 198, 194, 43, 139, 175, 12, 1, 39, 169]
def ks5 : ByteArray := ⟨#[56, 53, 100, 54, 98, 101, 55, 56, 53, 55, 53, 53, 54, 100, 51, 51, 55, 102, 52, 52, 53, 50, 102, 101, 52, 50, 100, 53, 48, 54, 97, 56, 48, 49, 48, 51, 56, 48, 56, 97, 102, 98, 48, 100, 98, 50, 102, 100, 52, 97, 98, 102, 102, 54, 97, 102, 52, 49, 52, 57, 102, 53, 49, 98]⟩
def ts5 : ByteArray := ⟨#[97, 56, 48, 54, 49, 100, 99, 49, 51, 48, 53, 49, 51, 54, 99, 54, 99, 50, 50, 98, 56, 98, 97, 102, 48, 99, 48, 49, 50, 55, 97, 57]⟩
theorem kk5_hex : hxl (sd ks5) 32 = kk5 := by decide +kernel
theorem tt5_hex : hxl (sd ts5) 16 = tt5 := by decide +kernel
theorem kk5_ok : (sd ks5).all okd = true := by decide +kernel
theorem ts5_ok : (sd ts5).all okd = true := by decide +kernel
theorem tg_kk0 : tg kk5 [] = kk5.drop 16 := by decide +kernel
theorem tg_kku : tg kk5 uu5 = tt5 := by decide +kernel
theorem byt5 (l : List Int) (h : l.all (fun x => decide (0 ≤ x) && decide (x ≤ 255)) = true) : Byt l := by
  intro x hx
  have := List.all_eq_true.1 h x hx
  simp only [Bool.and_eq_true, decide_eq_true_eq] at this
  exact this
theorem kk5_bn : Bn 32 kk5 := ⟨rfl, byt5 _ (by decide)⟩
theorem uu5_byt : Byt uu5 := byt5 _ (by decide)

set_option maxRecDepth 8000 in
set_option maxHeartbeats 4000000 in
theorem key5_c (s : ByteArray) (hsz : s.size = 2 * 32) (hok : (sd s).all okd = true) (w : World) :
    Calls Try.prog 23 #[.string s] w fun e w' => ∃ l, e = .returned (.agg (List.map (Value.int .u8) l).toArray) ∧ Hid (l = hxl (sd s) 32) ∧ Hid (Bn 32 l) ∧ Below w.heap.size w w' := by
  have HBy : Hid (Byt (hxl (sd s) 32)) := hxl_byt hok 32 (by unfold sd; rw [List.length_map, Array.length_toList]; exact Nat.le_of_eq hsz.symm)
  go_enter Try.func23, Try.ntmps23
  go_upto_region 2 with fail
  have HD : Hid (((w.alloc (.cells #[.int .u8 0, .int .u8 0, .int .u8 0, .int .u8 0, .int .u8 0, .int .u8 0, .int .u8 0, .int .u8 0, .int .u8 0, .int .u8 0, .int .u8 0, .int .u8 0, .int .u8 0, .int .u8 0, .int .u8 0, .int .u8 0, .int .u8 0, .int .u8 0, .int .u8 0, .int .u8 0, .int .u8 0, .int .u8 0, .int .u8 0, .int .u8 0, .int .u8 0, .int .u8 0, .int .u8 0, .int .u8 0, .int .u8 0, .int .u8 0, .int .u8 0, .int .u8 0] 22)).alloc (.cells #[.int .u8 0, .int .u8 0, .int .u8 0, .int .u8 0, .int .u8 0, .int .u8 0, .int .u8 0, .int .u8 0, .int .u8 0, .int .u8 0, .int .u8 0, .int .u8 0, .int .u8 0, .int .u8 0, .int .u8 0, .int .u8 0, .int .u8 0, .int .u8 0, .int .u8 0, .int .u8 0, .int .u8 0, .int .u8 0, .int .u8 0, .int .u8 0, .int .u8 0, .int .u8 0, .int .u8 0, .int .u8 0, .int .u8 0, .int .u8 0, .int .u8 0, .int .u8 0] 22)).there w.heap.size 0 32) := there_later (bel1 _ _) (there_new w 32 _ rfl _)
  have A3 : Hid (Ar ((w.alloc (.cells #[.int .u8 0, .int .u8 0, .int .u8 0, .int .u8 0, .int .u8 0, .int .u8 0, .int .u8 0, .int .u8 0, .int .u8 0, .int .u8 0, .int .u8 0, .int .u8 0, .int .u8 0, .int .u8 0, .int .u8 0, .int .u8 0, .int .u8 0, .int .u8 0, .int .u8 0, .int .u8 0, .int .u8 0, .int .u8 0, .int .u8 0, .int .u8 0, .int .u8 0, .int .u8 0, .int .u8 0, .int .u8 0, .int .u8 0, .int .u8 0, .int .u8 0, .int .u8 0] 22)).alloc (.cells #[.int .u8 0, .int .u8 0, .int .u8 0, .int .u8 0, .int .u8 0, .int .u8 0, .int .u8 0, .int .u8 0, .int .u8 0, .int .u8 0, .int .u8 0, .int .u8 0, .int .u8 0, .int .u8 0, .int .u8 0, .int .u8 0, .int .u8 0, .int .u8 0, .int .u8 0, .int .u8 0, .int .u8 0, .int .u8 0, .int .u8 0, .int .u8 0, .int .u8 0, .int .u8 0, .int .u8 0, .int .u8 0, .int .u8 0, .int .u8 0, .int .u8 0, .int .u8 0] 22)) (w.heap.size + 1) 32 (List.map (Value.int .u8) (List.replicate 32 0))) := by have := ar_box (w.alloc (.cells #[.int .u8 0, .int .u8 0, .int .u8 0, .int .u8 0, .int .u8 0, .int .u8 0, .int .u8 0, .int .u8 0, .int .u8 0, .int .u8 0, .int .u8 0, .int .u8 0, .int .u8 0, .int .u8 0, .int .u8 0, .int .u8 0, .int .u8 0, .int .u8 0, .int .u8 0, .int .u8 0, .int .u8 0, .int .u8 0, .int .u8 0, .int .u8 0, .int .u8 0, .int .u8 0, .int .u8 0, .int .u8 0, .int .u8 0, .int .u8 0, .int .u8 0, .int .u8 0] 22)) (List.map (Value.int .u8) (List.replicate 32 0)) 32 rfl 22; simpa [Hid] using this
  have HB : Hid (Below w.heap.size w ((w.alloc (.cells #[.int .u8 0, .int .u8 0, .int .u8 0, .int .u8 0, .int .u8 0, .int .u8 0, .int .u8 0, .int .u8 0, .int .u8 0, .int .u8 0, .int .u8 0, .int .u8 0, .int .u8 0, .int .u8 0, .int .u8 0, .int .u8 0, .int .u8 0, .int .u8 0, .int .u8 0, .int .u8 0, .int .u8 0, .int .u8 0, .int .u8 0, .int .u8 0, .int .u8 0, .int .u8 0, .int .u8 0, .int .u8 0, .int .u8 0, .int .u8 0, .int .u8 0, .int .u8 0] 22)).alloc (.cells #[.int .u8 0, .int .u8 0, .int .u8 0, .int .u8 0, .int .u8 0, .int .u8 0, .int .u8 0, .int .u8 0, .int .u8 0, .int .u8 0, .int .u8 0, .int .u8 0, .int .u8 0, .int .u8 0, .int .u8 0, .int .u8 0, .int .u8 0, .int .u8 0, .int .u8 0, .int .u8 0, .int .u8 0, .int .u8 0, .int .u8 0, .int .u8 0, .int .u8 0, .int .u8 0, .int .u8 0, .int .u8 0, .int .u8 0, .int .u8 0, .int .u8 0, .int .u8 0] 22))) := bel2 _ _ _
  generalize (w.alloc (.cells #[.int .u8 0, .int .u8 0, .int .u8 0, .int .u8 0, .int .u8 0, .int .u8 0, .int .u8 0, .int .u8 0, .int .u8 0, .int .u8 0, .int .u8 0, .int .u8 0, .int .u8 0, .int .u8 0, .int .u8 0, .int .u8 0, .int .u8 0, .int .u8 0, .int .u8 0, .int .u8 0, .int .u8 0, .int .u8 0, .int .u8 0, .int .u8 0, .int .u8 0, .int .u8 0, .int .u8 0, .int .u8 0, .int .u8 0, .int .u8 0, .int .u8 0, .int .u8 0] 22)).alloc (.cells #[.int .u8 0, .int .u8 0, .int .u8 0, .int .u8 0, .int .u8 0, .int .u8 0, .int .u8 0, .int .u8 0, .int .u8 0, .int .u8 0, .int .u8 0, .int .u8 0, .int .u8 0, .int .u8 0, .int .u8 0, .int .u8 0, .int .u8 0, .int .u8 0, .int .u8 0, .int .u8 0, .int .u8 0, .int .u8 0, .int .u8 0, .int .u8 0, .int .u8 0, .int .u8 0, .int .u8 0, .int .u8 0, .int .u8 0, .int .u8 0, .int .u8 0, .int .u8 0] 22) = W at *
  have k1 : w.heap.size < w.heap.size + 1 := by omega
  generalize w.heap.size + 1 = b3 at *
  refine wp_region_noPanic ?_
  refine wp_region_held_drew (S := ExtB b3 W) (by kernel_rfl) (ExtB.refl _ _).drew (fun hH => ?_)
  change wpAnyH _ _ _ _ _ _ #[false, false, false, false] _ _
  refine wpAnyH_take (i := 0) (oi := ?o0k) (v := ?v0k) ?h0k (by kernel_rfl) ?f0k ?r0k (fun _ _ _ h => h) (Or.inl ⟨?w0k, ?y0k⟩) (by assumption) ?t0k
  case h0k => simp only [List.getElem?_toArray]; rfl
  case f0k => kernel_rfl
  case r0k => kernel_rfl
  case w0k => rfl
  case y0k => (intro u hu; (go_simp) <;> with_reducible rfl)
  try simp only [Act.put, List.setIfInBounds_toArray, List.set_cons_zero, List.set_cons_succ]
  refine wpAnyH_take (i := 1) (oi := ?o1k) (v := ?v1k) ?h1k (by kernel_rfl) ?f1k ?r1k (fun _ _ _ h => h) (Or.inl ⟨?w1k, ?y1k⟩) (by assumption) ?t1k
  case h1k => simp only [List.getElem?_toArray]; rfl
  case f1k => kernel_rfl
  case r1k => kernel_rfl
  case w1k => rfl
  case y1k => (intro u hu; (go_simp) <;> with_reducible rfl)
  try simp only [Act.put, List.setIfInBounds_toArray, List.set_cons_zero, List.set_cons_succ]
  refine wpAnyH_ready (rs := [2]) (by kernel_rfl) (by simp) ?_
  refine AllReadyH.cons (o := ?o2k) ?h2k (fun K hK => ?_) AllReadyH.nil
  case h2k => simp only [List.getElem?_toArray]; rfl
  go_simp
  refine (hex5_c s 32 hsz (by decide) hok _).mono ?_
  rintro e V ⟨v, rfl, HO, hb⟩
  obtain ⟨ax, cx, rfl⟩ := owns_shape HO.out
  refine hK.out _ _ (hH.trans hb) (fun hH' => ?_)
  clear hK K hH
  have hH := hH'
  clear hH'
  try simp only [List.setIfInBounds_toArray, List.set]
  have HRx : Hid (Rd V ax 32 cx (hxl (sd s) 32)) := Rd.owns HBy.out HO.out
  obtain ⟨bx, ox, hax, -⟩ := HRx.out.cell (by decide)
  rw [hax] at HRx ⊢
  clear hax HO
  replace hb : Below W.heap.size W V := (Below.refl _ _).drew.trans (hb.mono (Nat.le_refl _))
  replace A3 : Hid (Ar V b3 32 (List.map (Value.int .u8) (List.replicate 32 0))) := A3.out.later hb
  replace HD : Hid (V.there w.heap.size 0 32) := there_later hb HD.out
  replace HB : Hid (Below w.heap.size w V) := HB.out.trans (hb.mono HB.out.size)
  have hcp := fun ty => copy_c V b3 0 32 32 ⟨bx, ox, none⟩ 32 cx (hxl (sd s) 32) HRx.out 32 (by decide) A3.out.all ty
  rw [List.take_of_length_le (by rw [hxl_len]; exact Nat.le_refl _)] at hcp
  clear hb
  refine wpAnyH_ready (rs := [3]) (by kernel_rfl) (by simp) ?_
  refine AllReadyH.cons (o := ?o3k) ?h3k (fun K hK => ?_) AllReadyH.nil
  case h3k => simp only [List.getElem?_toArray]; rfl
  go_simp
  refine hK.out _ _ (extB_setCells _ _ _ hH) (fun hH' => ?_)
  clear hK K hH
  have hH := hH'
  clear hH'
  try simp only [List.setIfInBounds_toArray, List.set]
  refine wpAnyH_done (by kernel_rfl) ?_ _
  refine NoPanic.normal ?_
  clear hcp hH
  obtain ⟨l, HL⟩ : ∃ l, Hid (l = hxl (sd s) 32) := ⟨_, rfl⟩
  have HBn : Hid (Bn 32 l) := by unfold Hid; rw [HL.out]; exact ⟨hxl_len _ _, HBy.out⟩
  rw [← HL.out]
  obtain ⟨hlen, hone, hi2⟩ := bn32_cells HBn.out
  generalize hcs : (List.map (Value.int .u8) l) = cs at *
  have HC : Hid ((List.map (Value.int .u8) l) = cs) := hcs
  clear hcs
  have HR3 : Hid ((V.setCells b3 0 cs).rangeAt b3 0 cs) := World.rangeAt_setCells_same _ _ _ _ (by rw [hlen]; exact A3.out.all)
  have hth : (V.setCells b3 0 cs).there w.heap.size 0 32 := World.there_setCells HD.out _ _ _
  replace HB : Hid (Below w.heap.size w (V.setCells b3 0 cs)) := below_setCells _ (by omega) _ _ _ HB.out
  clear A3 HD HRx
  generalize V.setCells b3 0 cs = Y at *
  go_wp2_with (first
    | (refine wpList_load_mid rfl 22 (.tmp 3) rfl b3 0 rfl cs _ HR3.out Try.underlying22 rfl hi2 ?_)
    | (refine wpList_store_mid rfl 22 (.tmp 2) (.tmp 8) rfl w.heap.size 0 cs.toArray rfl rfl (by simpa [hlen] using hth) (by simpa using hi2) (all_oneCell_toArray hone) ?_))
  have HR2 : Hid ((Y.setCells w.heap.size 0 cs).rangeAt w.heap.size 0 cs) := World.rangeAt_setCells_same _ _ _ _ (by rw [hlen]; exact hth)
  have hld := run_loadVar_mid (P := Try.prog) _ _ 0 22 _ _ HR2.out Try.underlying22 rfl hi2
  exact bodyPost_ret (v := .agg cs.toArray) (by simp [results, Try.results23]; exact hld) rfl ⟨l, by rw [HC.out], HL, HBn, below_setCells _ (Nat.le_refl _) _ _ _ HB.out⟩
end Go.Proofs.Ythacbicakbjgiaa
