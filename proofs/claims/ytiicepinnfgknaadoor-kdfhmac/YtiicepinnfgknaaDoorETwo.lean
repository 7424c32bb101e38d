/-
  What kdf's Derive and the reference's make of two keys and of three, key by key; where they make none. No statement of the seat is proved here.
-/
import Derived.Test.YtiicepinnfgknaaDoorERD
namespace Go.Proofs.YtiicepinnfgknaaDoor
open Go.RowKit

theorem two_of {u : World} {g : Nat} {T : List Int} (h : RdA u (some ⟨g, 0, none⟩) 2 (kl8 T 2)) : u.rangeAt g 0 (List.map (Value.int .u8) (ky8 T 1)) ∧ u.rangeAt g 32 (List.map (Value.int .u8) (ky8 T 2)) := ⟨h.at 0 (by decide), h.at 1 (by decide)⟩
theorem three_of {u : World} {g : Nat} {T : List Int} (h : RdA u (some ⟨g, 0, none⟩) 3 (kl8 T 3)) : u.rangeAt g 0 (List.map (Value.int .u8) (ky8 T 1)) ∧ u.rangeAt g 32 (List.map (Value.int .u8) (ky8 T 2)) ∧ u.rangeAt g 64 (List.map (Value.int .u8) (ky8 T 3)) := ⟨h.at 0 (by decide), h.at 1 (by decide), h.at 2 (by decide)⟩
theorem derive2_l (chain : List Int) (a : Option Addr) (len cap : Nat) (input : List Int) (hc : Bn 32 chain) (w : World) (hr : Rd w a len cap input) (hg : Gb w) (hT : 64 + len ≤ 4611686018427387904) :
    Calls Tryd.prog 8 #[(.agg (List.map (Value.int .u8) chain).toArray), .slice a len cap, .int .i64 2] w fun e w' => ∃ g A B, e = .returned (.slice (some ⟨g, 0, none⟩) 2 2) ∧ Hid (A = ky8 (hm8 chain input) 1) ∧ Hid (B = ky8 (hm8 chain input) 2) ∧ Hid (w'.rangeAt g 0 (List.map (Value.int .u8) A)) ∧ Hid (w'.rangeAt g 32 (List.map (Value.int .u8) B)) ∧ Below w.heap.size w w' :=
  (derive_yes chain a len cap input 2 hc (.inl rfl) w hr hg hT).mono fun _ _ ⟨g, h, hR, hb⟩ => ⟨g, _, _, h, rfl, rfl, (two_of hR.out).1, (two_of hR.out).2, hb⟩
theorem derive3_l (chain : List Int) (a : Option Addr) (len cap : Nat) (input : List Int) (hc : Bn 32 chain) (w : World) (hr : Rd w a len cap input) (hg : Gb w) (hT : 64 + len ≤ 4611686018427387904) :
    Calls Tryd.prog 8 #[(.agg (List.map (Value.int .u8) chain).toArray), .slice a len cap, .int .i64 3] w fun e w' => ∃ g A B C, e = .returned (.slice (some ⟨g, 0, none⟩) 3 3) ∧ Hid (A = ky8 (hm8 chain input) 1) ∧ Hid (B = ky8 (hm8 chain input) 2) ∧ Hid (C = ky8 (hm8 chain input) 3) ∧ Hid (w'.rangeAt g 0 (List.map (Value.int .u8) A)) ∧ Hid (w'.rangeAt g 32 (List.map (Value.int .u8) B)) ∧ Hid (w'.rangeAt g 64 (List.map (Value.int .u8) C)) ∧ Below w.heap.size w w' :=
  (derive_yes chain a len cap input 3 hc (.inr rfl) w hr hg hT).mono fun _ _ ⟨g, h, hR, hb⟩ => ⟨g, _, _, _, h, rfl, rfl, rfl, (three_of hR.out).1, (three_of hR.out).2.1, (three_of hR.out).2.2, hb⟩
theorem rderive2_l (chain : List Int) (a : Option Addr) (len cap : Nat) (input : List Int) (hc : Bn 32 chain) (w : World) (hr : Rd w a len cap input) (hg : Gq w) (hT : 64 + len ≤ 140737488355328) :
    Calls Tryd.prog 14 #[(.agg (List.map (Value.int .u8) chain).toArray), .slice a len cap, .int .i64 2] w fun e w' => ∃ g c A, e = .returned (.slice (some ⟨g, 0, none⟩) 2 c) ∧ Hid (A = ky8 (hm8 chain input) 1) ∧ Hid (w'.rangeAt g 0 (List.map (Value.int .u8) A)) ∧ Below w.heap.size w w' :=
  (rderive_yes chain a len cap input 2 hc (.inl rfl) w hr hg hT).mono fun _ _ ⟨g, c, h, hR, hb⟩ => ⟨g, c, _, h, rfl, (two_of hR.out).1, hb⟩
/-- The keys, for any number. -/
def kn8 (T : List Int) (n : Nat) : List (List Int) := if n = 2 ∨ n = 3 then kl8 T n else []
theorem derive_n (chain : List Int) (a : Option Addr) (len cap : Nat) (input : List Int) (n : Nat) (hc : Bn 32 chain) (w : World) (hr : Rd w a len cap input) (hg : Gb w) (hT : 64 + len ≤ 4611686018427387904) :
    Calls Tryd.prog 8 #[(.agg (List.map (Value.int .u8) chain).toArray), .slice a len cap, .int .i64 n] w fun e w' => ∃ p m c L, e = .returned (.slice p m c) ∧ Hid (L = kn8 (hm8 chain input) n) ∧ Hid (RdA w' p m L) ∧ m ≤ 3 ∧ Below w.heap.size w w' := by
  by_cases hn : n = 2 ∨ n = 3
  · refine (derive_yes chain a len cap input n hc hn w hr hg hT).mono fun _ _ ⟨g, h, hR, hb⟩ => ⟨_, n, n, _, h, ?_, hR, by omega, hb⟩
    unfold Hid kn8
    rw [if_pos hn]
  · refine (derive_no chain a len cap n (by omega) (by omega) w).mono fun _ _ ⟨h, hb⟩ => ⟨none, 0, 0, _, h, ?_, RdA.nil _ _, Nat.zero_le _, hb⟩
    unfold Hid kn8
    rw [if_neg hn]
theorem rderive_n (chain : List Int) (a : Option Addr) (len cap : Nat) (input : List Int) (n : Nat) (hc : Bn 32 chain) (w : World) (hr : Rd w a len cap input) (hg : Gq w) (hT : 64 + len ≤ 140737488355328) :
    Calls Tryd.prog 14 #[(.agg (List.map (Value.int .u8) chain).toArray), .slice a len cap, .int .i64 n] w fun e w' => ∃ p m c L, e = .returned (.slice p m c) ∧ Hid (L = kn8 (hm8 chain input) n) ∧ Hid (RdA w' p m L) ∧ Below w.heap.size w w' := by
  by_cases hn : n = 2 ∨ n = 3
  · refine (rderive_yes chain a len cap input n hc hn w hr hg hT).mono fun _ _ ⟨g, c, h, hR, hb⟩ => ⟨_, n, c, _, h, ?_, hR, hb⟩
    unfold Hid kn8
    rw [if_pos hn]
  · refine (rderive_no chain a len cap n (by omega) (by omega) w).mono fun _ _ ⟨h, hb⟩ => ⟨none, 0, 0, _, h, ?_, RdA.nil _ _, hb⟩
    unfold Hid kn8
    rw [if_neg hn]
end Go.Proofs.YtiicepinnfgknaaDoor
