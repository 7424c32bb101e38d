/-
  What a State's Hash, Chain, HasKey and MixHash do. No statement of the seat is proved here.
-/
import Derived.Test.YtmibjgkakolhiaaDoorPk22
import Derived.Test.YtmibjgkakolhiaaDoorBSum
import Derived.Test.YtmibjgkakolhiaaDoorVGo
import Derived.Test.YtmibjgkakolhiaaDoorPk21
import Derived.Test.YtmibjgkakolhiaaDoorKRow
namespace Go.Proofs.YtmibjgkakolhiaaDoor
open Go.RowKit

set_option maxRecDepth 8000 in
set_option maxHeartbeats 2000000 in
theorem hash10_c (b : Nat) (k : List Int) (h : Bool) (n : Int) (H C : List Int) (w : World) (hs : My w b k h n H C) :
    Calls Tryd.prog 10 #[.pointer (some ⟨b, 0, none⟩)] w fun e w' => e = .returned (.agg (List.map (Value.int .u8) H).toArray) ∧ Below w.heap.size w w' := by
  have HS : Hid (My w b k h n H C) := hs
  clear hs
  go_enter Tryd.func10, Tryd.ntmps10
  go_upto_region 1 with fail
  have HD : Hid ((w.alloc (.cells #[.int .u8 0, .int .u8 0, .int .u8 0, .int .u8 0, .int .u8 0, .int .u8 0, .int .u8 0, .int .u8 0, .int .u8 0, .int .u8 0, .int .u8 0, .int .u8 0, .int .u8 0, .int .u8 0, .int .u8 0, .int .u8 0, .int .u8 0, .int .u8 0, .int .u8 0, .int .u8 0, .int .u8 0, .int .u8 0, .int .u8 0, .int .u8 0, .int .u8 0, .int .u8 0, .int .u8 0, .int .u8 0, .int .u8 0, .int .u8 0, .int .u8 0, .int .u8 0] 27)).there w.heap.size 0 32) := by unfold Hid; exact there_new _ 32 _ rfl _
  have HB : Hid (Below w.heap.size w (w.alloc (.cells #[.int .u8 0, .int .u8 0, .int .u8 0, .int .u8 0, .int .u8 0, .int .u8 0, .int .u8 0, .int .u8 0, .int .u8 0, .int .u8 0, .int .u8 0, .int .u8 0, .int .u8 0, .int .u8 0, .int .u8 0, .int .u8 0, .int .u8 0, .int .u8 0, .int .u8 0, .int .u8 0, .int .u8 0, .int .u8 0, .int .u8 0, .int .u8 0, .int .u8 0, .int .u8 0, .int .u8 0, .int .u8 0, .int .u8 0, .int .u8 0, .int .u8 0, .int .u8 0] 27))) := bel1 _ _
  obtain ⟨W0, hW0⟩ : ∃ W, W = (w.alloc (.cells #[.int .u8 0, .int .u8 0, .int .u8 0, .int .u8 0, .int .u8 0, .int .u8 0, .int .u8 0, .int .u8 0, .int .u8 0, .int .u8 0, .int .u8 0, .int .u8 0, .int .u8 0, .int .u8 0, .int .u8 0, .int .u8 0, .int .u8 0, .int .u8 0, .int .u8 0, .int .u8 0, .int .u8 0, .int .u8 0, .int .u8 0, .int .u8 0, .int .u8 0, .int .u8 0, .int .u8 0, .int .u8 0, .int .u8 0, .int .u8 0, .int .u8 0, .int .u8 0] 27)) := ⟨_, rfl⟩
  obtain ⟨q2, hq2⟩ : ∃ q, q = w.heap.size := ⟨_, rfl⟩
  rw [← hW0] at HD HB ⊢
  have HQ : Hid (q2 = w.heap.size) := hq2
  rw [← hq2] at HD ⊢
  have k1 : q2 < W0.heap.size := there_lt HD.out (by decide)
  clear hW0 hq2
  replace HS : Hid (My W0 b k h n H C) := HS.out.later HB.out
  have hR := HS.out.ho.rng
  obtain ⟨hlen', hone, hi⟩ := bn32_cells HS.out.bh
  obtain ⟨cs, hcs⟩ : ∃ cs, cs = (List.map (Value.int .u8) H) := ⟨_, rfl⟩
  have HCS : Hid (cs = (List.map (Value.int .u8) H)) := hcs
  rw [← hcs] at hlen' hone hi hR
  clear hcs
  have hth := HD.out
  go_wp2_with (first
    | (refine wpList_load_mid rfl 27 (.tmp 5) rfl b 34 rfl cs _ hR Tryd.underlying27 rfl hi ?_)
    | (refine wpList_store_mid rfl 27 (.tmp 2) (.tmp 6) rfl q2 0 cs.toArray rfl rfl (by simpa [hlen'] using hth) (by simpa using hi) (all_oneCell_toArray hone) ?_))
  have HR2 : Hid ((W0.setCells q2 0 cs).rangeAt q2 0 cs) := World.rangeAt_setCells_same _ _ _ _ (by rw [hlen']; exact hth)
  have hld := run_loadVar_mid (P := Tryd.prog) _ _ 0 27 _ _ HR2.out Tryd.underlying27 rfl hi
  exact bodyPost_ret (v := .agg cs.toArray) (by simp [results, Tryd.results10]; exact hld) rfl ⟨by rw [HCS.out], below_setCells _ (by have := HQ.out; omega) _ _ _ HB.out⟩
set_option maxRecDepth 8000 in
set_option maxHeartbeats 2000000 in
theorem chain10_c (b : Nat) (k : List Int) (h : Bool) (n : Int) (H C : List Int) (w : World) (hs : My w b k h n H C) :
    Calls Tryd.prog 16 #[.pointer (some ⟨b, 0, none⟩)] w fun e w' => e = .returned (.agg (List.map (Value.int .u8) C).toArray) ∧ Below w.heap.size w w' := by
  have HS : Hid (My w b k h n H C) := hs
  clear hs
  go_enter Tryd.func16, Tryd.ntmps16
  go_upto_region 1 with fail
  have HD : Hid ((w.alloc (.cells #[.int .u8 0, .int .u8 0, .int .u8 0, .int .u8 0, .int .u8 0, .int .u8 0, .int .u8 0, .int .u8 0, .int .u8 0, .int .u8 0, .int .u8 0, .int .u8 0, .int .u8 0, .int .u8 0, .int .u8 0, .int .u8 0, .int .u8 0, .int .u8 0, .int .u8 0, .int .u8 0, .int .u8 0, .int .u8 0, .int .u8 0, .int .u8 0, .int .u8 0, .int .u8 0, .int .u8 0, .int .u8 0, .int .u8 0, .int .u8 0, .int .u8 0, .int .u8 0] 27)).there w.heap.size 0 32) := by unfold Hid; exact there_new _ 32 _ rfl _
  have HB : Hid (Below w.heap.size w (w.alloc (.cells #[.int .u8 0, .int .u8 0, .int .u8 0, .int .u8 0, .int .u8 0, .int .u8 0, .int .u8 0, .int .u8 0, .int .u8 0, .int .u8 0, .int .u8 0, .int .u8 0, .int .u8 0, .int .u8 0, .int .u8 0, .int .u8 0, .int .u8 0, .int .u8 0, .int .u8 0, .int .u8 0, .int .u8 0, .int .u8 0, .int .u8 0, .int .u8 0, .int .u8 0, .int .u8 0, .int .u8 0, .int .u8 0, .int .u8 0, .int .u8 0, .int .u8 0, .int .u8 0] 27))) := bel1 _ _
  obtain ⟨W0, hW0⟩ : ∃ W, W = (w.alloc (.cells #[.int .u8 0, .int .u8 0, .int .u8 0, .int .u8 0, .int .u8 0, .int .u8 0, .int .u8 0, .int .u8 0, .int .u8 0, .int .u8 0, .int .u8 0, .int .u8 0, .int .u8 0, .int .u8 0, .int .u8 0, .int .u8 0, .int .u8 0, .int .u8 0, .int .u8 0, .int .u8 0, .int .u8 0, .int .u8 0, .int .u8 0, .int .u8 0, .int .u8 0, .int .u8 0, .int .u8 0, .int .u8 0, .int .u8 0, .int .u8 0, .int .u8 0, .int .u8 0] 27)) := ⟨_, rfl⟩
  obtain ⟨q2, hq2⟩ : ∃ q, q = w.heap.size := ⟨_, rfl⟩
  rw [← hW0] at HD HB ⊢
  have HQ : Hid (q2 = w.heap.size) := hq2
  rw [← hq2] at HD ⊢
  have k1 : q2 < W0.heap.size := there_lt HD.out (by decide)
  clear hW0 hq2
  replace HS : Hid (My W0 b k h n H C) := HS.out.later HB.out
  have hR := HS.out.co.rng
  obtain ⟨hlen', hone, hi⟩ := bn32_cells HS.out.bc
  obtain ⟨cs, hcs⟩ : ∃ cs, cs = (List.map (Value.int .u8) C) := ⟨_, rfl⟩
  have HCS : Hid (cs = (List.map (Value.int .u8) C)) := hcs
  rw [← hcs] at hlen' hone hi hR
  clear hcs
  have hth := HD.out
  go_wp2_with (first
    | (refine wpList_load_mid rfl 27 (.tmp 5) rfl b 66 rfl cs _ hR Tryd.underlying27 rfl hi ?_)
    | (refine wpList_store_mid rfl 27 (.tmp 2) (.tmp 6) rfl q2 0 cs.toArray rfl rfl (by simpa [hlen'] using hth) (by simpa using hi) (all_oneCell_toArray hone) ?_))
  have HR2 : Hid ((W0.setCells q2 0 cs).rangeAt q2 0 cs) := World.rangeAt_setCells_same _ _ _ _ (by rw [hlen']; exact hth)
  have hld := run_loadVar_mid (P := Tryd.prog) _ _ 0 27 _ _ HR2.out Tryd.underlying27 rfl hi
  exact bodyPost_ret (v := .agg cs.toArray) (by simp [results, Tryd.results16]; exact hld) rfl ⟨by rw [HCS.out], below_setCells _ (by have := HQ.out; omega) _ _ _ HB.out⟩
set_option maxRecDepth 8000 in
theorem haskey10_c (b : Nat) (k : List Int) (h : Bool) (n : Int) (H C : List Int) (w : World) (hs : My w b k h n H C) :
    Calls Tryd.prog 17 #[.pointer (some ⟨b, 0, none⟩)] w fun e w' => e = .returned (.bool h) ∧ w' = w := by
  go_enter Tryd.func17, Tryd.ntmps17
  go_wp2_with fail
  refine (has9_o b 0 k h n _ hs.sy).mono ?_
  rintro e V ⟨rfl, hw⟩
  rw [hw]
  clear hw V
  go_wp2
  go_ret
  exact ⟨rfl, rfl⟩
set_option maxRecDepth 8000 in
set_option maxHeartbeats 4000000 in
theorem mixhash10_c (b : Nat) (k : List Int) (h : Bool) (n : Int) (H C : List Int) (a : Option Addr) (len cap : Nat) (x : List Int) (w : World) (hs : My w b k h n H C) (hr : Rd w a len cap x) (hg : Gb w) (hm : len ≤ 281474976710656) :
    Calls Tryd.prog 11 #[.pointer (some ⟨b, 0, none⟩), .slice a len cap] w fun e w' => e = .returned (.tuple #[]) ∧ Hid (My w' b k h n (sum7 (H ++ x)) C) ∧ ExtB b w w' := by
  have HS : Hid (My w b k h n H C) := hs
  have HG : Hid (Gb w) := hg
  have HL : Hid (x.length = len) := hr.hlen
  have HHL : Hid (H.length = 32) := hs.bh.len
  have hb1 := bel1 w (.cells #[.slice (some ⟨b, 34, none⟩) 32 32, .slice a len cap] 35)
  have Y1 : Hid (RdL (w.alloc (.cells #[.slice (some ⟨b, 34, none⟩) 32 32, .slice a len cap] 35)) (some ⟨w.heap.size, 0, none⟩) 2 [H, x]) := RdL.two w _ 32 32 H _ len cap x 35 hs.rdH hr
  have hlt := hs.lt
  clear hs hr hg
  go_enter Tryd.func11, Tryd.ntmps11
  go_wp2_with fail
  refine (sum_c (some ⟨w.heap.size, 0, none⟩) 2 2 [H, x] _ Y1.out (HG.out.later hb1) (by decide) (by simp only [List.flatten_cons, List.flatten_nil, List.append_nil, List.length_append]; rw [HL.out, HHL.out]; omega)).mono ?_
  rintro e V ⟨S, rfl, HS1, hb⟩
  replace HS1 : Hid (S = sum7 (H ++ x)) := by have := HS1.out; rwa [List.flatten_cons, List.flatten_cons, List.flatten_nil, List.append_nil] at this
  have hSn : Bn 32 S := by rw [HS1.out]; exact sum7_bn _
  have hb2 : Below w.heap.size w V := hb1.trans (hb.mono hb1.size)
  replace HS : Hid (My V b k h n H C) := HS.out.later hb2
  have HE : Hid (ExtB b w V) := extb_of hb2
  clear hb hb1 hb2 Y1 HG HL HHL
  have hth := HS.out.ho.all
  obtain ⟨hlen', hone, hi⟩ := bn32_cells hSn
  obtain ⟨cs, hcs⟩ : ∃ cs, cs = (List.map (Value.int .u8) S) := ⟨_, rfl⟩
  have HCS : Hid (cs = (List.map (Value.int .u8) S)) := hcs
  rw [← hcs] at hlen' hone hi ⊢
  clear hcs
  go_wp2_with (refine wpList_store_mid rfl 27 (.tmp 13) (.tmp 11) rfl b 34 cs.toArray rfl rfl (by simpa [hlen'] using hth) (by simpa using hi) (all_oneCell_toArray hone) ?_)
  go_end0
  exact ⟨rfl, by unfold Hid; rw [HCS.out, ← HS1.out]; exact HS.out.setH hSn, extB_setCells _ _ _ HE.out⟩
end Go.Proofs.YtmibjgkakolhiaaDoor
