/-
  Several texts of one's own, laid together. No statement of the seat is proved here.
-/
import Derived.Test.YtmibjgkakolhiaaDoorERD
import Derived.Test.YtmibjgkakolhiaaDoorETw1
import Derived.Test.YtmibjgkakolhiaaDoorPk40
/-
  What kdf's Derive and the reference's make of two keys and of three, key by key; where they make none. No statement of the seat is proved here.
-/
namespace Go.Proofs.YtmibjgkakolhiaaDoor
open Go.RowKit

set_option maxRecDepth 8000 in
theorem rderive2_l (chain : List Int) (a : Option Addr) (len cap : Nat) (input : List Int) (hc : Bn 32 chain) (w : World) (hr : Rd w a len cap input) (hg : Gq w) (hT : 64 + len ≤ 140737488355328) :
    Calls Tryd.prog 30 #[(.agg (List.map (Value.int .u8) chain).toArray), .slice a len cap, .int .i64 2] w fun e w' => ∃ g c A, e = .returned (.slice (some ⟨g, 0, none⟩) 2 c) ∧ Hid (A = ky8 (hm8 chain input) 1) ∧ Hid (w'.rangeAt g 0 (List.map (Value.int .u8) A)) ∧ Below w.heap.size w w' :=
  (rderive_yes chain a len cap input 2 hc (.inl rfl) w hr hg hT).mono fun _ _ ⟨g, c, h, hR, hb⟩ => ⟨g, c, _, h, rfl, (two_of hR.out).1, hb⟩
/-- The keys, for any number. -/
def kn8 (T : List Int) (n : Nat) : List (List Int) := if n = 2 ∨ n = 3 then kl8 T n else []
set_option maxRecDepth 8000 in
theorem derive_n (chain : List Int) (a : Option Addr) (len cap : Nat) (input : List Int) (n : Nat) (hc : Bn 32 chain) (w : World) (hr : Rd w a len cap input) (hg : Gb w) (hT : 64 + len ≤ 4611686018427387904) :
    Calls Tryd.prog 28 #[(.agg (List.map (Value.int .u8) chain).toArray), .slice a len cap, .int .i64 n] w fun e w' => ∃ p m c L, e = .returned (.slice p m c) ∧ Hid (L = kn8 (hm8 chain input) n) ∧ Hid (RdA w' p m L) ∧ m ≤ 3 ∧ Below w.heap.size w w' := by
  by_cases hn : n = 2 ∨ n = 3
  · refine (derive_yes chain a len cap input n hc hn w hr hg hT).mono fun _ _ ⟨g, h, hR, hb⟩ => ⟨_, n, n, _, h, ?_, hR, by omega, hb⟩
    unfold Hid kn8
    rw [if_pos hn]
  · refine (derive_no chain a len cap n (by omega) (by omega) w).mono fun _ _ ⟨h, hb⟩ => ⟨none, 0, 0, _, h, ?_, RdA.nil _ _, Nat.zero_le _, hb⟩
    unfold Hid kn8
    rw [if_neg hn]
set_option maxRecDepth 8000 in
theorem rderive_n (chain : List Int) (a : Option Addr) (len cap : Nat) (input : List Int) (n : Nat) (hc : Bn 32 chain) (w : World) (hr : Rd w a len cap input) (hg : Gq w) (hT : 64 + len ≤ 140737488355328) :
    Calls Tryd.prog 30 #[(.agg (List.map (Value.int .u8) chain).toArray), .slice a len cap, .int .i64 n] w fun e w' => ∃ p m c L, e = .returned (.slice p m c) ∧ Hid (L = kn8 (hm8 chain input) n) ∧ Hid (RdA w' p m L) ∧ Below w.heap.size w w' := by
  by_cases hn : n = 2 ∨ n = 3
  · refine (rderive_yes chain a len cap input n hc hn w hr hg hT).mono fun _ _ ⟨g, c, h, hR, hb⟩ => ⟨_, n, c, _, h, ?_, hR, hb⟩
    unfold Hid kn8
    rw [if_pos hn]
  · refine (rderive_no chain a len cap n (by omega) (by omega) w).mono fun _ _ ⟨h, hb⟩ => ⟨none, 0, 0, _, h, ?_, RdA.nil _ _, hb⟩
    unfold Hid kn8
    rw [if_neg hn]
end Go.Proofs.YtmibjgkakolhiaaDoor
/-
  What the reference's Cipher's Init does where it is embedded. No statement of the seat is proved here.
-/
namespace Go.Proofs.YtmibjgkakolhiaaDoor
open Go.RowKit

set_option maxRecDepth 8000 in
set_option maxHeartbeats 2000000 in
theorem rinit9_o (b o : Nat) (k : List Int) (h : Bool) (n : Int) (key : List Int) (hk : Bn 32 key) (w : World) (hs : Cy w b o k h n) :
    Calls Tryd.prog 31 #[.pointer (some ⟨b, o, none⟩), (.agg (List.map (Value.int .u8) key).toArray)] w fun e w' => e = .returned (.tuple #[]) ∧ Hid (Cy w' b o key true 0) ∧ ExtR b o 34 w w' := by
  have HS : Hid (Cy w b o k h n) := hs
  have HK : Hid (Bn 32 key) := hk
  clear hs hk
  go_enter Tryd.func31, Tryd.ntmps31
  go_upto_region 1 with fail
  have AK : Hid (Ar (w.alloc (.cells (List.map (Value.int .u8) key).toArray 27)) w.heap.size 32 (List.map (Value.int .u8) key)) := ar_box w _ 32 HK.out.map_len _
  have HB : Hid (Below w.heap.size w (w.alloc (.cells (List.map (Value.int .u8) key).toArray 27))) := bel1 _ _
  have HE : Hid (ExtR b o 34 w (w.alloc (.cells (List.map (Value.int .u8) key).toArray 27))) := ExtR.of (bel1 _ _) HS.out.lt
  have hbq : b ≠ w.heap.size := by have := HS.out.lt; omega
  obtain ⟨W0, hW0⟩ : ∃ W, W = (w.alloc (.cells (List.map (Value.int .u8) key).toArray 27)) := ⟨_, rfl⟩
  obtain ⟨q3, hq3⟩ : ∃ q, q = w.heap.size := ⟨_, rfl⟩
  rw [← hW0] at AK HB HE ⊢
  rw [← hq3] at AK hbq ⊢
  clear hW0 hq3
  replace HS : Hid (Cy W0 b o k h n) := HS.out.later HB.out
  clear HB
  obtain ⟨ch, fh⟩ := HS.out.has
  go_upto_region 2 with fail
  replace HS : Hid (Cy (W0.setCell ⟨b, o, none⟩ (.bool true)) b o k true n) := HS.out.setHas true
  replace AK : Hid (Ar (W0.setCell ⟨b, o, none⟩ (.bool true)) q3 32 (List.map (Value.int .u8) key)) := AK.out.else b o (Ne.symm hbq) _
  replace HE : Hid (ExtR b o 34 w (W0.setCell ⟨b, o, none⟩ (.bool true))) := HE.out.set o (by omega) (by omega) _
  obtain ⟨W1, hW1⟩ : ∃ W, W = (W0.setCell ⟨b, o, none⟩ (.bool true)) := ⟨_, rfl⟩
  rw [← hW1] at AK HS HE ⊢
  clear hW1 ch fh
  obtain ⟨hlen', hone, hi⟩ := bn32_cells HK.out
  have hth := HS.out.keyThere
  have hR := AK.out.rng
  obtain ⟨cs, hcs⟩ : ∃ cs, cs = (List.map (Value.int .u8) key) := ⟨_, rfl⟩
  have HC : Hid (cs = (List.map (Value.int .u8) key)) := hcs
  rw [← hcs] at hlen' hone hi hR
  clear hcs
  go_upto_region 3 with (first
    | (refine wpList_load_mid rfl 27 (.tmp 3) rfl q3 0 rfl cs _ hR Tryd.underlying27 rfl hi ?_)
    | (refine wpList_store_mid rfl 27 (.tmp 10) (.tmp 8) rfl b (o + 1) cs.toArray rfl rfl (by simpa [hlen'] using hth) (by simpa using hi) (all_oneCell_toArray hone) ?_))
  replace HS : Hid (Cy (W1.setCells b (o + 1) cs) b o key true n) := by rw [HC.out]; exact HS.out.setKey HK.out
  replace HE : Hid (ExtR b o 34 w (W1.setCells b (o + 1) cs)) := ExtR.cells _ (o + 1) HE.out (by omega) (by omega)
  obtain ⟨W2, hW2⟩ : ∃ W, W = (W1.setCells b (o + 1) cs) := ⟨_, rfl⟩
  rw [← hW2] at HS HE ⊢
  clear hW2 hlen' hone hi hR hth HC AK
  obtain ⟨cn, fn⟩ := HS.out.nonce
  go_wp2
  go_end0
  exact ⟨rfl, HS.out.setN (by decide), HE.out.set (o + 33) (by omega) (by omega) _⟩
end Go.Proofs.YtmibjgkakolhiaaDoor
