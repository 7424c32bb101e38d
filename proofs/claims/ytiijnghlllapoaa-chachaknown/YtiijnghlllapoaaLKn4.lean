/-
  Proved: ChachaKnown returns true (the walk). No condition.
-/
import Derived.Test.YtiijnghlllapoaaQApp
import Derived.Test.YtiijnghlllapoaaQKn
namespace Go.Proofs.Ytiijnghlllapoaa
open Go.RowKit

def up : Nat → List Int
  | 0 => []
  | k + 1 => up k ++ [(k : Int)]
theorem up_len : ∀ k, (up k).length = k
  | 0 => rfl
  | k + 1 => by rw [up, List.length_append, up_len k]; rfl
def nz : List Int := [0, 0, 0, 9, 0, 0, 0, 74, 0, 0, 0, 0]
def zz : List Int := [0, 0, 0, 0, 0, 0, 0, 0, 0, 0, 0, 0]
theorem nz_eq : (.agg #[.int .u8 0, .int .u8 0, .int .u8 0, .int .u8 9, .int .u8 0, .int .u8 0, .int .u8 0, .int .u8 74, .int .u8 0, .int .u8 0, .int .u8 0, .int .u8 0] : Value) = (.agg (List.map (Value.int .u8) nz).toArray) := by kernel_rfl
theorem zz_eq : (.agg #[.int .u8 0, .int .u8 0, .int .u8 0, .int .u8 0, .int .u8 0, .int .u8 0, .int .u8 0, .int .u8 0, .int .u8 0, .int .u8 0, .int .u8 0, .int .u8 0] : Value) = (.agg (List.map (Value.int .u8) zz).toArray) := by kernel_rfl
theorem byt_dec (l : List Int) (h : l.all (fun x => decide (0 ≤ x) && decide (x ≤ 255)) = true) : Byt l := by
  intro x hx
  have := List.all_eq_true.1 h x hx
  simp only [Bool.and_eq_true, decide_eq_true_eq] at this
  exact this
theorem up_bn : Bn 32 (up 32) := ⟨up_len 32, byt_dec _ (by decide)⟩
theorem nz_bn : Bn 12 nz := ⟨rfl, byt_dec _ (by decide)⟩
theorem zz_bn : Bn 12 zz := ⟨rfl, byt_dec _ (by decide)⟩
theorem blk_known : blk (up 32) 1 nz = [16, 241, 231, 228, 209, 59, 89, 21, 80, 15, 221, 31, 163, 32, 113, 196, 199, 209, 244, 199, 51, 192, 104, 3, 4, 34, 170, 154, 195, 212, 108, 78, 210, 130, 100, 70, 7, 159, 170, 9, 20, 194, 215, 5, 217, 139, 2, 162, 181, 18, 156, 209, 222, 22, 78, 185, 203, 208, 131, 232, 162, 80, 60, 78] := by decide +kernel

set_option maxHeartbeats 4000000 in
theorem chachaKnown_walk (w : World) : Calls Try.prog 3 #[] w fun e w' => e = .returned (.bool true) ∧ Below w.heap.size w w' := by
  go_enter Try.func3, Try.ntmps3
  go_wp2
  have HT : Hid ((w.alloc (.cells #[.int .u8 0, .int .u8 0, .int .u8 0, .int .u8 0, .int .u8 0, .int .u8 0, .int .u8 0, .int .u8 0, .int .u8 0, .int .u8 0, .int .u8 0, .int .u8 0, .int .u8 0, .int .u8 0, .int .u8 0, .int .u8 0, .int .u8 0, .int .u8 0, .int .u8 0, .int .u8 0, .int .u8 0, .int .u8 0, .int .u8 0, .int .u8 0, .int .u8 0, .int .u8 0, .int .u8 0, .int .u8 0, .int .u8 0, .int .u8 0, .int .u8 0, .int .u8 0] 22)).there w.heap.size 0 32) := there_new w 32 _ rfl _
  have HB : Hid (Below w.heap.size w (w.alloc (.cells #[.int .u8 0, .int .u8 0, .int .u8 0, .int .u8 0, .int .u8 0, .int .u8 0, .int .u8 0, .int .u8 0, .int .u8 0, .int .u8 0, .int .u8 0, .int .u8 0, .int .u8 0, .int .u8 0, .int .u8 0, .int .u8 0, .int .u8 0, .int .u8 0, .int .u8 0, .int .u8 0, .int .u8 0, .int .u8 0, .int .u8 0, .int .u8 0, .int .u8 0, .int .u8 0, .int .u8 0, .int .u8 0, .int .u8 0, .int .u8 0, .int .u8 0, .int .u8 0] 22))) := bel1 _ _
  generalize w.alloc (.cells #[.int .u8 0, .int .u8 0, .int .u8 0, .int .u8 0, .int .u8 0, .int .u8 0, .int .u8 0, .int .u8 0, .int .u8 0, .int .u8 0, .int .u8 0, .int .u8 0, .int .u8 0, .int .u8 0, .int .u8 0, .int .u8 0, .int .u8 0, .int .u8 0, .int .u8 0, .int .u8 0, .int .u8 0, .int .u8 0, .int .u8 0, .int .u8 0, .int .u8 0, .int .u8 0, .int .u8 0, .int .u8 0, .int .u8 0, .int .u8 0, .int .u8 0, .int .u8 0] 22) = W0 at *
  go_loopw [2] (fun i wr => ∃ k : Nat, k ≤ 32 ∧ i = .int .i64 k ∧ Hid (wr.there w.heap.size 0 32) ∧ Hid (wr.rangeAt w.heap.size 0 (List.map (Value.int .u8) (up k))) ∧ Hid (Below w.heap.size w wr)) (fun i _ => 32 - (intOf i).toNat)
  case atStart => exact ⟨0, by decide, rfl, HT, (fun j v hv => by simp [up] at hv), HB⟩
  case round =>
    clear HT HB
    obtain ⟨k, hk, rfl, HT, HR, HB⟩ := hrel
    by_cases hlt : k < 32
    · obtain ⟨c, hc, hf⟩ := there_cell HT.out k hlt
      have g1 : (k : Int) < 32 := by omega
      go_wp2
      go_roundw
      case rel => exact ⟨k + 1, by omega, by go_num, there_set HT.out _ _ _, by
        unfold Hid
        rw [up, List.map_append]
        exact range_snoc HR.out (k := k) (by rw [List.length_map, up_len]) HT.out hlt (.int .u8 k), HB.out.setCell (p := ⟨w.heap.size, k, none⟩) (Nat.le_refl _) _⟩
      case measure => simp [intOf]; omega
    · have e : k = 32 := by omega
      subst e
      obtain ⟨_, _, hiK⟩ := bn32_cells up_bn
      go_wp2_with (refine wpList_load_mid rfl 22 (.tmp 1) rfl w.heap.size 0 rfl (List.map (Value.int .u8) (up 32)) _ HR.out Try.underlying22 rfl hiK ?_)
      rw [nz_eq]
      refine (block_c (up 32) 1 nz up_bn ⟨by decide, by decide⟩ nz_bn _).mono ?_
      rintro e V ⟨B, rfl, HBk, hB, hb⟩
      have HBn : Hid (Bn 64 B) := hB
      replace HR : Hid (V.rangeAt w.heap.size 0 (List.map (Value.int .u8) (up 32))) := range_later hb HR.out
      replace HB : Hid (Below w.heap.size w V) := HB.out.trans (hb.mono HB.out.size)
      have kb : w.heap.size < V.heap.size := Nat.lt_of_lt_of_le (there_lt HT.out (by decide)) hb.size
      clear hb hB HT
      obtain ⟨hlen, hone, hi2⟩ := bn64_cells HBn.out
      generalize hcs : (List.map (Value.int .u8) B) = cs at *
      have HC : Hid ((List.map (Value.int .u8) B) = cs) := hcs
      clear hcs
      have hth := there_new V 64 #[.int .u8 0, .int .u8 0, .int .u8 0, .int .u8 0, .int .u8 0, .int .u8 0, .int .u8 0, .int .u8 0, .int .u8 0, .int .u8 0, .int .u8 0, .int .u8 0, .int .u8 0, .int .u8 0, .int .u8 0, .int .u8 0, .int .u8 0, .int .u8 0, .int .u8 0, .int .u8 0, .int .u8 0, .int .u8 0, .int .u8 0, .int .u8 0, .int .u8 0, .int .u8 0, .int .u8 0, .int .u8 0, .int .u8 0, .int .u8 0, .int .u8 0, .int .u8 0, .int .u8 0, .int .u8 0, .int .u8 0, .int .u8 0, .int .u8 0, .int .u8 0, .int .u8 0, .int .u8 0, .int .u8 0, .int .u8 0, .int .u8 0, .int .u8 0, .int .u8 0, .int .u8 0, .int .u8 0, .int .u8 0, .int .u8 0, .int .u8 0, .int .u8 0, .int .u8 0, .int .u8 0, .int .u8 0, .int .u8 0, .int .u8 0, .int .u8 0, .int .u8 0, .int .u8 0, .int .u8 0, .int .u8 0, .int .u8 0, .int .u8 0, .int .u8 0] rfl 23
      have A3 : Hid (Ar ((V.alloc (.cells #[.int .u8 0, .int .u8 0, .int .u8 0, .int .u8 0, .int .u8 0, .int .u8 0, .int .u8 0, .int .u8 0, .int .u8 0, .int .u8 0, .int .u8 0, .int .u8 0, .int .u8 0, .int .u8 0, .int .u8 0, .int .u8 0, .int .u8 0, .int .u8 0, .int .u8 0, .int .u8 0, .int .u8 0, .int .u8 0, .int .u8 0, .int .u8 0, .int .u8 0, .int .u8 0, .int .u8 0, .int .u8 0, .int .u8 0, .int .u8 0, .int .u8 0, .int .u8 0, .int .u8 0, .int .u8 0, .int .u8 0, .int .u8 0, .int .u8 0, .int .u8 0, .int .u8 0, .int .u8 0, .int .u8 0, .int .u8 0, .int .u8 0, .int .u8 0, .int .u8 0, .int .u8 0, .int .u8 0, .int .u8 0, .int .u8 0, .int .u8 0, .int .u8 0, .int .u8 0, .int .u8 0, .int .u8 0, .int .u8 0, .int .u8 0, .int .u8 0, .int .u8 0, .int .u8 0, .int .u8 0, .int .u8 0, .int .u8 0, .int .u8 0, .int .u8 0] 23)).setCells V.heap.size 0 cs) V.heap.size 64 cs) := ar_var V _ 64 rfl _ _ hlen
      have HX : Hid (Below V.heap.size V ((V.alloc (.cells #[.int .u8 0, .int .u8 0, .int .u8 0, .int .u8 0, .int .u8 0, .int .u8 0, .int .u8 0, .int .u8 0, .int .u8 0, .int .u8 0, .int .u8 0, .int .u8 0, .int .u8 0, .int .u8 0, .int .u8 0, .int .u8 0, .int .u8 0, .int .u8 0, .int .u8 0, .int .u8 0, .int .u8 0, .int .u8 0, .int .u8 0, .int .u8 0, .int .u8 0, .int .u8 0, .int .u8 0, .int .u8 0, .int .u8 0, .int .u8 0, .int .u8 0, .int .u8 0, .int .u8 0, .int .u8 0, .int .u8 0, .int .u8 0, .int .u8 0, .int .u8 0, .int .u8 0, .int .u8 0, .int .u8 0, .int .u8 0, .int .u8 0, .int .u8 0, .int .u8 0, .int .u8 0, .int .u8 0, .int .u8 0, .int .u8 0, .int .u8 0, .int .u8 0, .int .u8 0, .int .u8 0, .int .u8 0, .int .u8 0, .int .u8 0, .int .u8 0, .int .u8 0, .int .u8 0, .int .u8 0, .int .u8 0, .int .u8 0, .int .u8 0, .int .u8 0] 23)).setCells V.heap.size 0 cs)) := bel_var _ _ _ _
      go_upto_region 7 with (refine wpList_store_mid rfl 23 (.tmp 3) (.tmp 14) rfl (V.heap.size) 0 cs.toArray rfl rfl (by simpa [hlen] using hth) (by simpa using hi2) (all_oneCell_toArray hone) ?_)
      clear hth
      replace HR : Hid (((V.alloc (.cells #[.int .u8 0, .int .u8 0, .int .u8 0, .int .u8 0, .int .u8 0, .int .u8 0, .int .u8 0, .int .u8 0, .int .u8 0, .int .u8 0, .int .u8 0, .int .u8 0, .int .u8 0, .int .u8 0, .int .u8 0, .int .u8 0, .int .u8 0, .int .u8 0, .int .u8 0, .int .u8 0, .int .u8 0, .int .u8 0, .int .u8 0, .int .u8 0, .int .u8 0, .int .u8 0, .int .u8 0, .int .u8 0, .int .u8 0, .int .u8 0, .int .u8 0, .int .u8 0, .int .u8 0, .int .u8 0, .int .u8 0, .int .u8 0, .int .u8 0, .int .u8 0, .int .u8 0, .int .u8 0, .int .u8 0, .int .u8 0, .int .u8 0, .int .u8 0, .int .u8 0, .int .u8 0, .int .u8 0, .int .u8 0, .int .u8 0, .int .u8 0, .int .u8 0, .int .u8 0, .int .u8 0, .int .u8 0, .int .u8 0, .int .u8 0, .int .u8 0, .int .u8 0, .int .u8 0, .int .u8 0, .int .u8 0, .int .u8 0, .int .u8 0, .int .u8 0] 23)).setCells V.heap.size 0 cs).rangeAt w.heap.size 0 (List.map (Value.int .u8) (up 32))) := range_later HX.out HR.out
      replace HB : Hid (Below w.heap.size w ((V.alloc (.cells #[.int .u8 0, .int .u8 0, .int .u8 0, .int .u8 0, .int .u8 0, .int .u8 0, .int .u8 0, .int .u8 0, .int .u8 0, .int .u8 0, .int .u8 0, .int .u8 0, .int .u8 0, .int .u8 0, .int .u8 0, .int .u8 0, .int .u8 0, .int .u8 0, .int .u8 0, .int .u8 0, .int .u8 0, .int .u8 0, .int .u8 0, .int .u8 0, .int .u8 0, .int .u8 0, .int .u8 0, .int .u8 0, .int .u8 0, .int .u8 0, .int .u8 0, .int .u8 0, .int .u8 0, .int .u8 0, .int .u8 0, .int .u8 0, .int .u8 0, .int .u8 0, .int .u8 0, .int .u8 0, .int .u8 0, .int .u8 0, .int .u8 0, .int .u8 0, .int .u8 0, .int .u8 0, .int .u8 0, .int .u8 0, .int .u8 0, .int .u8 0, .int .u8 0, .int .u8 0, .int .u8 0, .int .u8 0, .int .u8 0, .int .u8 0, .int .u8 0, .int .u8 0, .int .u8 0, .int .u8 0, .int .u8 0, .int .u8 0, .int .u8 0, .int .u8 0] 23)).setCells V.heap.size 0 cs)) := HB.out.trans (Below.mono HX.out HB.out.size)
      clear HX
      generalize (V.alloc (.cells #[.int .u8 0, .int .u8 0, .int .u8 0, .int .u8 0, .int .u8 0, .int .u8 0, .int .u8 0, .int .u8 0, .int .u8 0, .int .u8 0, .int .u8 0, .int .u8 0, .int .u8 0, .int .u8 0, .int .u8 0, .int .u8 0, .int .u8 0, .int .u8 0, .int .u8 0, .int .u8 0, .int .u8 0, .int .u8 0, .int .u8 0, .int .u8 0, .int .u8 0, .int .u8 0, .int .u8 0, .int .u8 0, .int .u8 0, .int .u8 0, .int .u8 0, .int .u8 0, .int .u8 0, .int .u8 0, .int .u8 0, .int .u8 0, .int .u8 0, .int .u8 0, .int .u8 0, .int .u8 0, .int .u8 0, .int .u8 0, .int .u8 0, .int .u8 0, .int .u8 0, .int .u8 0, .int .u8 0, .int .u8 0, .int .u8 0, .int .u8 0, .int .u8 0, .int .u8 0, .int .u8 0, .int .u8 0, .int .u8 0, .int .u8 0, .int .u8 0, .int .u8 0, .int .u8 0, .int .u8 0, .int .u8 0, .int .u8 0, .int .u8 0, .int .u8 0] 23)).setCells V.heap.size 0 cs = W5 at *
      obtain ⟨b3, hb3⟩ : ∃ b, b = V.heap.size := ⟨_, rfl⟩
      rw [← hb3] at A3 kb ⊢
      clear hb3
      have HC' := HC.out
      have HBk' := HBk.out
      rw [blk_known] at HBk'
      rw [← HC', HBk'] at A3
      clear HC HC' HBk HBk' hlen hone hi2 HBn
      go_wp2_with fail
      refine (known4_any _).mono ?_
      rintro e w7 ⟨rfl, hb⟩
      replace HR : Hid (w7.rangeAt w.heap.size 0 (List.map (Value.int .u8) (up 32))) := range_later hb HR.out
      replace HB : Hid (Below w.heap.size w w7) := HB.out.trans (hb.mono HB.out.size)
      have A3' := A3.out.later hb
      clear hb A3
      have e0 : w7.cell? ⟨b3, 0, none⟩ = some (.int .u8 16) := by have := A3'.rng 0 (.int .u8 16) rfl; rwa [Nat.zero_add] at this
      have e1 : w7.cell? ⟨b3, 1, none⟩ = some (.int .u8 241) := by have := A3'.rng 1 (.int .u8 241) rfl; rwa [Nat.zero_add] at this
      have e2 : w7.cell? ⟨b3, 2, none⟩ = some (.int .u8 231) := by have := A3'.rng 2 (.int .u8 231) rfl; rwa [Nat.zero_add] at this
      have e3 : w7.cell? ⟨b3, 3, none⟩ = some (.int .u8 228) := by have := A3'.rng 3 (.int .u8 228) rfl; rwa [Nat.zero_add] at this
      have e62 : w7.cell? ⟨b3, 62, none⟩ = some (.int .u8 60) := by have := A3'.rng 62 (.int .u8 60) rfl; rwa [Nat.zero_add] at this
      have e63 : w7.cell? ⟨b3, 63, none⟩ = some (.int .u8 78) := by have := A3'.rng 63 (.int .u8 78) rfl; rwa [Nat.zero_add] at this
      clear A3'
      go_wp2_with (first
        | (refine wpList_load_want (by rfl) 22 (.tmp 1) rfl w.heap.size 0 rfl (List.map (Value.int .u8) (up 32)) _ HR.out Try.underlying22 rfl hiK ?_)
        | (refine wpList_load_mid rfl 22 (.tmp 1) rfl w.heap.size 0 rfl (List.map (Value.int .u8) (up 32)) _ HR.out Try.underlying22 rfl hiK ?_))
      rw [zz_eq]
      refine (apply_zero (up 32) 1 zz none 0 _).mono ?_
      rintro e w8 ⟨g, X, rfl, -, -, hb⟩
      replace HB : Hid (Below w.heap.size w w8) := HB.out.trans (hb.mono HB.out.size)
      clear hb HR
      go_wp2
      go_ret
      exact ⟨rfl, HB.out⟩
end Go.Proofs.Ytiijnghlllapoaa
