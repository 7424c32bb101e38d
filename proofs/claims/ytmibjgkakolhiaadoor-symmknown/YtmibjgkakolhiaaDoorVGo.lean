/-
  What a State's Init, Has, Nonce, SetNonce, Key, Copy do where it is embedded. No statement of the seat is proved here.
-/
import Derived.Test.YtmibjgkakolhiaaDoorVOps
import Derived.Test.YtmibjgkakolhiaaDoorPk21
namespace Go.Proofs.YtmibjgkakolhiaaDoor
open Go.RowKit

set_option maxRecDepth 8000 in
theorem has9_o (b o : Nat) (k : List Int) (h : Bool) (n : Int) (w : World) (hs : Sy w b o k h n) :
    Calls Tryd.prog 18 #[.pointer (some ⟨b, o, none⟩)] w fun e w' => e = .returned (.bool h) ∧ w' = w := by
  obtain ⟨ch, -⟩ := hs.has
  go_enter Tryd.func18, Tryd.ntmps18
  go_wp2
  go_ret
  exact ⟨rfl, rfl⟩
set_option maxRecDepth 8000 in
theorem nonce9_o (b o : Nat) (k : List Int) (h : Bool) (n : Int) (w : World) (hs : Sy w b o k h n) :
    Calls Tryd.prog 25 #[.pointer (some ⟨b, o, none⟩)] w fun e w' => e = .returned (.int .u64 n) ∧ w' = w := by
  obtain ⟨cn, -⟩ := hs.nonce
  go_enter Tryd.func25, Tryd.ntmps25
  go_wp2
  go_ret
  exact ⟨rfl, rfl⟩
set_option maxRecDepth 8000 in
theorem key9_o (b o : Nat) (k : List Int) (h : Bool) (n : Int) (w : World) (hs : Sy w b o k h n) :
    Calls Tryd.prog 19 #[.pointer (some ⟨b, o, none⟩)] w fun e w' => e = .returned (.agg (List.map (Value.int .u8) k).toArray) ∧ Below w.heap.size w w' := by
  have HS : Hid (Sy w b o k h n) := hs
  clear hs
  go_enter Tryd.func19, Tryd.ntmps19
  go_upto_region 1 with fail
  have HD : Hid ((w.alloc (.cells #[.int .u8 0, .int .u8 0, .int .u8 0, .int .u8 0, .int .u8 0, .int .u8 0, .int .u8 0, .int .u8 0, .int .u8 0, .int .u8 0, .int .u8 0, .int .u8 0, .int .u8 0, .int .u8 0, .int .u8 0, .int .u8 0, .int .u8 0, .int .u8 0, .int .u8 0, .int .u8 0, .int .u8 0, .int .u8 0, .int .u8 0, .int .u8 0, .int .u8 0, .int .u8 0, .int .u8 0, .int .u8 0, .int .u8 0, .int .u8 0, .int .u8 0, .int .u8 0] 27)).there w.heap.size 0 32) := by unfold Hid; exact there_new _ 32 _ rfl _
  have HB : Hid (Below w.heap.size w (w.alloc (.cells #[.int .u8 0, .int .u8 0, .int .u8 0, .int .u8 0, .int .u8 0, .int .u8 0, .int .u8 0, .int .u8 0, .int .u8 0, .int .u8 0, .int .u8 0, .int .u8 0, .int .u8 0, .int .u8 0, .int .u8 0, .int .u8 0, .int .u8 0, .int .u8 0, .int .u8 0, .int .u8 0, .int .u8 0, .int .u8 0, .int .u8 0, .int .u8 0, .int .u8 0, .int .u8 0, .int .u8 0, .int .u8 0, .int .u8 0, .int .u8 0, .int .u8 0, .int .u8 0] 27))) := bel1 _ _
  obtain ⟨W0, hW0⟩ : ∃ W, W = (w.alloc (.cells #[.int .u8 0, .int .u8 0, .int .u8 0, .int .u8 0, .int .u8 0, .int .u8 0, .int .u8 0, .int .u8 0, .int .u8 0, .int .u8 0, .int .u8 0, .int .u8 0, .int .u8 0, .int .u8 0, .int .u8 0, .int .u8 0, .int .u8 0, .int .u8 0, .int .u8 0, .int .u8 0, .int .u8 0, .int .u8 0, .int .u8 0, .int .u8 0, .int .u8 0, .int .u8 0, .int .u8 0, .int .u8 0, .int .u8 0, .int .u8 0, .int .u8 0, .int .u8 0] 27)) := ⟨_, rfl⟩
  obtain ⟨q2, hq2⟩ : ∃ q, q = w.heap.size := ⟨_, rfl⟩
  rw [← hW0] at HD HB ⊢
  have HQ : Hid (q2 = w.heap.size) := hq2
  rw [← hq2] at HD ⊢
  clear hW0 hq2
  replace HS : Hid (Sy W0 b o k h n) := HS.out.later HB.out
  obtain ⟨hlen', hone, hi⟩ := bn32_cells HS.out.bk
  have hR := HS.out.key
  obtain ⟨cs, hcs⟩ : ∃ cs, cs = (List.map (Value.int .u8) k) := ⟨_, rfl⟩
  have HC : Hid (cs = (List.map (Value.int .u8) k)) := hcs
  rw [← hcs] at hlen' hone hi hR
  clear hcs
  have hth := HD.out
  go_wp2_with (first
    | (refine wpList_load_mid rfl 27 (.tmp 5) rfl b o rfl cs _ hR Tryd.underlying27 rfl hi ?_)
    | (refine wpList_store_mid rfl 27 (.tmp 2) (.tmp 6) rfl q2 0 cs.toArray rfl rfl (by simpa [hlen'] using hth) (by simpa using hi) (all_oneCell_toArray hone) ?_))
  have HR2 : Hid ((W0.setCells q2 0 cs).rangeAt q2 0 cs) := World.rangeAt_setCells_same _ _ _ _ (by rw [hlen']; exact hth)
  have hld := run_loadVar_mid (P := Tryd.prog) _ _ 0 27 _ _ HR2.out Tryd.underlying27 rfl hi
  exact bodyPost_ret (v := .agg cs.toArray) (by simp [results, Tryd.results19]; exact hld) rfl ⟨by rw [HC.out], below_setCells _ (by have := HQ.out; omega) _ _ _ HB.out⟩

set_option maxRecDepth 8000 in
set_option maxHeartbeats 2000000 in
theorem init9_o (b o : Nat) (k : List Int) (h : Bool) (n : Int) (key : List Int) (hk : Bn 32 key) (w : World) (hs : Sy w b o k h n) :
    Calls Tryd.prog 29 #[.pointer (some ⟨b, o, none⟩), (.agg (List.map (Value.int .u8) key).toArray)] w fun e w' => e = .returned (.tuple #[]) ∧ Hid (Sy w' b o key true 0) ∧ ExtR b o 34 w w' := by
  have HS : Hid (Sy w b o k h n) := hs
  have HK : Hid (Bn 32 key) := hk
  clear hs hk
  go_enter Tryd.func29, Tryd.ntmps29
  go_upto_region 1 with fail
  have AK : Hid (Ar (w.alloc (.cells (List.map (Value.int .u8) key).toArray 27)) w.heap.size 32 (List.map (Value.int .u8) key)) := ar_box w _ 32 HK.out.map_len _
  have HB : Hid (Below w.heap.size w (w.alloc (.cells (List.map (Value.int .u8) key).toArray 27))) := bel1 _ _
  have HE : Hid (ExtR b o 34 w (w.alloc (.cells (List.map (Value.int .u8) key).toArray 27))) := ExtR.of (bel1 _ _) HS.out.lt
  obtain ⟨W0, hW0⟩ : ∃ W, W = (w.alloc (.cells (List.map (Value.int .u8) key).toArray 27)) := ⟨_, rfl⟩
  obtain ⟨q3, hq3⟩ : ∃ q, q = w.heap.size := ⟨_, rfl⟩
  rw [← hW0] at AK HB HE ⊢
  rw [← hq3] at AK ⊢
  clear hW0 hq3
  replace HS : Hid (Sy W0 b o k h n) := HS.out.later HB.out
  obtain ⟨_, _, hi⟩ := bn32_cells HK.out
  obtain ⟨hlen', hone, hic⟩ := sc9_cells true 0 HK.out
  have hb9 := build_init HK.out.len W0
  have hth := HS.out.ao.all
  obtain ⟨cs, hcs⟩ : ∃ cs, cs = (sc9 key true 0) := ⟨_, rfl⟩
  have HC : Hid (cs = (sc9 key true 0)) := hcs
  rw [← hcs] at hlen' hone hic hb9
  clear hcs
  go_wp2_with (first
    | (refine wpList_load_mid rfl 27 (.tmp 3) rfl q3 0 rfl (List.map (Value.int .u8) key) _ AK.out.rng Tryd.underlying27 rfl hi ?_)
    | (refine wpList_build9 rfl rfl (.agg (List.map (Value.int .u8) key).toArray) (.agg cs.toArray) rfl hb9 ?_)
    | (refine wpList_store_mid rfl 55 (.tmp 7) (.tmp 6) rfl b o cs.toArray rfl rfl (by simpa [hlen'] using hth) (by simpa using hic) (all_oneCell_toArray hone) ?_))
  go_end0
  exact ⟨rfl, by rw [HC.out]; exact HS.out.setAll HK.out true (by decide), ExtR.cells _ o HE.out (Nat.le_refl _) (by first | omega | (have := hKn.map_len; omega))⟩
end Go.Proofs.YtmibjgkakolhiaaDoor
