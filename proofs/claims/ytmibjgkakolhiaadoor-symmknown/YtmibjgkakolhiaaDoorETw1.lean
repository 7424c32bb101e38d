/-
  Derive of two and of three keys, key by key. No statement of the seat is proved here.
-/
import Derived.Test.YtmibjgkakolhiaaDoorEDer
namespace Go.Proofs.YtmibjgkakolhiaaDoor
open Go.RowKit

set_option maxRecDepth 8000 in
theorem two_of {u : World} {g : Nat} {T : List Int} (h : RdA u (some ⟨g, 0, none⟩) 2 (kl8 T 2)) : u.rangeAt g 0 (List.map (Value.int .u8) (ky8 T 1)) ∧ u.rangeAt g 32 (List.map (Value.int .u8) (ky8 T 2)) := ⟨h.at 0 (by decide), h.at 1 (by decide)⟩
set_option maxRecDepth 8000 in
theorem three_of {u : World} {g : Nat} {T : List Int} (h : RdA u (some ⟨g, 0, none⟩) 3 (kl8 T 3)) : u.rangeAt g 0 (List.map (Value.int .u8) (ky8 T 1)) ∧ u.rangeAt g 32 (List.map (Value.int .u8) (ky8 T 2)) ∧ u.rangeAt g 64 (List.map (Value.int .u8) (ky8 T 3)) := ⟨h.at 0 (by decide), h.at 1 (by decide), h.at 2 (by decide)⟩
set_option maxRecDepth 8000 in
theorem derive2_l (chain : List Int) (a : Option Addr) (len cap : Nat) (input : List Int) (hc : Bn 32 chain) (w : World) (hr : Rd w a len cap input) (hg : Gb w) (hT : 64 + len ≤ 4611686018427387904) :
    Calls Tryd.prog 28 #[(.agg (List.map (Value.int .u8) chain).toArray), .slice a len cap, .int .i64 2] w fun e w' => ∃ g A B, e = .returned (.slice (some ⟨g, 0, none⟩) 2 2) ∧ Hid (A = ky8 (hm8 chain input) 1) ∧ Hid (B = ky8 (hm8 chain input) 2) ∧ Hid (w'.rangeAt g 0 (List.map (Value.int .u8) A)) ∧ Hid (w'.rangeAt g 32 (List.map (Value.int .u8) B)) ∧ Below w.heap.size w w' :=
  (derive_yes chain a len cap input 2 hc (.inl rfl) w hr hg hT).mono fun _ _ ⟨g, h, hR, hb⟩ => ⟨g, _, _, h, rfl, rfl, (two_of hR.out).1, (two_of hR.out).2, hb⟩
set_option maxRecDepth 8000 in
theorem derive3_l (chain : List Int) (a : Option Addr) (len cap : Nat) (input : List Int) (hc : Bn 32 chain) (w : World) (hr : Rd w a len cap input) (hg : Gb w) (hT : 64 + len ≤ 4611686018427387904) :
    Calls Tryd.prog 28 #[(.agg (List.map (Value.int .u8) chain).toArray), .slice a len cap, .int .i64 3] w fun e w' => ∃ g A B C, e = .returned (.slice (some ⟨g, 0, none⟩) 3 3) ∧ Hid (A = ky8 (hm8 chain input) 1) ∧ Hid (B = ky8 (hm8 chain input) 2) ∧ Hid (C = ky8 (hm8 chain input) 3) ∧ Hid (w'.rangeAt g 0 (List.map (Value.int .u8) A)) ∧ Hid (w'.rangeAt g 32 (List.map (Value.int .u8) B)) ∧ Hid (w'.rangeAt g 64 (List.map (Value.int .u8) C)) ∧ Below w.heap.size w w' :=
  (derive_yes chain a len cap input 3 hc (.inr rfl) w hr hg hT).mono fun _ _ ⟨g, h, hR, hb⟩ => ⟨g, _, _, _, h, rfl, rfl, rfl, (three_of hR.out).1, (three_of hR.out).2.1, (three_of hR.out).2.2, hb⟩
end Go.Proofs.YtmibjgkakolhiaaDoor
