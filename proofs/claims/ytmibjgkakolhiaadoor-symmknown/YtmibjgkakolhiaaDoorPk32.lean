/-
  Several texts of one's own, laid together. No statement of the seat is proved here.
-/
import Derived.Test.YtmibjgkakolhiaaDoorYNew
import Derived.Test.YtmibjgkakolhiaaDoorYOps
import Derived.Test.YtmibjgkakolhiaaDoorPk27
import Derived.Test.YtmibjgkakolhiaaDoorPk22
/-
  What law 10's own 'known' does: chapter 10's example holds. No statement of the seat is proved here.
-/
namespace Go.Proofs.YtmibjgkakolhiaaDoor
open Go.RowKit

def a10 : List Int := [97, 0, 0, 0, 0, 0, 0, 0, 0, 0, 0, 0, 0, 0, 0, 0, 0, 0, 0, 0, 0, 0, 0, 0, 0, 0, 0, 0, 0, 0, 0, 0]
set_option maxRecDepth 8000 in
theorem nm10_a : nm10 (sd { data := #[97] }) = a10 := by decide +kernel
set_option maxRecDepth 8000 in
theorem a10_bn : Bn 32 a10 := ⟨rfl, byt5 _ (by decide)⟩
set_option maxRecDepth 8000 in
set_option maxHeartbeats 4000000 in
theorem known10_any (w : World) (hg : Gb w) : Calls Tryd.prog 9 #[] w fun e w' => e = .returned (.bool true) ∧ Below w.heap.size w w' := by
  have HG : Hid (Gb w) := hg
  clear hg
  go_enter Tryd.func9, Tryd.ntmps9
  go_wp2_with fail
  refine (new10_c { data := #[97] } _ HG.out (by decide)).mono ?_
  rintro e V1 ⟨ba, N, rfl, kba, HN, Sa, hb⟩
  have HB : Hid (Below w.heap.size w V1) := hb
  clear hb
  have hN : N = a10 := by rw [HN.out]; exact nm10_a
  subst hN
  clear HN
  go_wp2_with fail
  refine (hash10_c ba z9l false 0 a10 a10 _ Sa.out).mono ?_
  rintro e V2 ⟨rfl, hb⟩
  replace Sa : Hid (My V2 ba z9l false 0 a10 a10) := Sa.out.later hb
  replace HB : Hid (Below w.heap.size w V2) := HB.out.trans (hb.mono HB.out.size)
  clear hb
  have heq : ∀ u, Sem.run Tryd.prog (binOp .eql 27 (.agg (List.map (Value.int .u8) a10).toArray) (.agg #[.int .u8 97, .int .u8 0, .int .u8 0, .int .u8 0, .int .u8 0, .int .u8 0, .int .u8 0, .int .u8 0, .int .u8 0, .int .u8 0, .int .u8 0, .int .u8 0, .int .u8 0, .int .u8 0, .int .u8 0, .int .u8 0, .int .u8 0, .int .u8 0, .int .u8 0, .int .u8 0, .int .u8 0, .int .u8 0, .int .u8 0, .int .u8 0, .int .u8 0, .int .u8 0, .int .u8 0, .int .u8 0, .int .u8 0, .int .u8 0, .int .u8 0, .int .u8 0])) u = .ok (.bool true) u := fun u => eql32 a10 a10 a10_bn rfl u
  go_wp2_with fail
  refine (chain10_c ba z9l false 0 a10 a10 _ Sa.out).mono ?_
  rintro e V3 ⟨rfl, hb⟩
  replace Sa : Hid (My V3 ba z9l false 0 a10 a10) := Sa.out.later hb
  replace HB : Hid (Below w.heap.size w V3) := HB.out.trans (hb.mono HB.out.size)
  clear hb
  go_wp2_with fail
  refine (haskey10_c ba z9l false 0 a10 a10 _ Sa.out).mono ?_
  rintro e V4 ⟨rfl, hw⟩
  rw [hw]
  clear hw V4
  go_wp2
  go_ret
  exact ⟨rfl, HB.out⟩
end Go.Proofs.YtmibjgkakolhiaaDoor
/-
  HMAC's block byte by byte, the keys one by one, lists of keys in memory. No statement of the seat is proved here.
-/
namespace Go.Proofs.YtmibjgkakolhiaaDoor
open Go.RowKit

set_option maxRecDepth 8000 in
theorem pad8_copy (c : List Int) : (List.replicate 64 (0 : Int)).take 0 ++ (c ++ (List.replicate 64 0).drop (0 + c.length)) = pad7 c := by
  unfold pad7
  rw [List.take_zero, List.nil_append, Nat.zero_add, List.drop_replicate]
/-- The first k bytes bear the mark. -/
def xw8 (x : Int) (B : List Int) (k : Nat) : List Int := xm8 x (B.take k) ++ B.drop k
set_option maxRecDepth 8000 in
theorem xw8_zero (x : Int) (B : List Int) : xw8 x B 0 = B := by unfold xw8 xm8; rw [List.take_zero, List.map_nil, List.drop_zero, List.nil_append]
set_option maxRecDepth 8000 in
theorem xw8_all (x : Int) (B : List Int) {n : Nat} (h : B.length = n) : xw8 x B n = xm8 x B := by
  unfold xw8
  rw [List.take_of_length_le (by omega), List.drop_of_length_le (by omega), List.append_nil]
set_option maxRecDepth 8000 in
theorem xw8_cut (x : Int) (B : List Int) (k : Nat) (h : k < B.length) : xw8 x B k = xm8 x (B.take k) ++ B[k]! :: B.drop (k + 1) := by
  unfold xw8
  rw [List.drop_eq_getElem_cons h, getElem!_pos B k h]
set_option maxRecDepth 8000 in
theorem xw8_plen (x : Int) (B : List Int) (k : Nat) (h : k < B.length) : (xm8 x (B.take k)).length = k := by rw [xm8_len, List.length_take]; omega
set_option maxRecDepth 8000 in
theorem xw8_get (x : Int) (B : List Int) (k : Nat) (h : k < B.length) : (xw8 x B k)[k]? = some B[k]! := by
  rw [xw8_cut x B k h, List.getElem?_append_right (by rw [xw8_plen x B k h]; exact Nat.le_refl _), xw8_plen x B k h, Nat.sub_self]
  rfl
set_option maxRecDepth 8000 in
theorem xw8_succ (x : Int) (B : List Int) (k : Nat) (h : k < B.length) : xw8 x B (k + 1) = (xw8 x B k).set k (bits .xor .u8 B[k]! x) := by
  rw [xw8_cut x B k h, List.set_append_right _ _ (by rw [xw8_plen x B k h]; exact Nat.le_refl _), xw8_plen x B k h, Nat.sub_self, List.set_cons_zero]
  unfold xw8
  rw [List.take_succ_eq_append_getElem h]
  unfold xm8
  rw [List.map_append, List.map_cons, List.map_nil, List.append_assoc, getElem!_pos B k h]
  rfl
set_option maxRecDepth 8000 in
theorem byte_at {n : Nat} {B : List Int} (h : Bn n B) (k : Nat) (hk : k < n) : ∃ y, 0 ≤ y ∧ y ≤ 255 ∧ B[k]! = y := by
  have hl : k < B.length := by rw [h.len]; exact hk
  have := h.byt _ (List.getElem_mem hl)
  exact ⟨B[k], this.1, this.2, getElem!_pos B k hl⟩
set_option maxRecDepth 8000 in
theorem cell8 {u : World} {b n k : Nat} {l : List Int} {y : Int} (h : Ar u b n (List.map (Value.int .u8) l)) (hg : l[k]? = some y) (hk : k < n) : u.cell? ⟨b, k, none⟩ = some (.int .u8 y) ∧ u.frozen? ⟨b, k, none⟩ = false := by
  have h1 := h.rng k (.int .u8 y) (by rw [List.getElem?_map, hg]; rfl)
  rw [Nat.zero_add] at h1
  exact ⟨h1, (h.cell k hk).2⟩
/-! ### The keys, one behind the other -/
def ky8 (t : List Int) : Nat → List Int
  | 0 => []
  | k + 1 => hm8 t (ky8 t k ++ [((k + 1 : Nat) : Int)])
set_option maxRecDepth 8000 in
theorem ky8_bn (t : List Int) (k : Nat) : Bn 32 (ky8 t (k + 1)) := hm8_bn _ _
def kl8 (t : List Int) : Nat → List (List Int)
  | 0 => []
  | k + 1 => kl8 t k ++ [ky8 t (k + 1)]
set_option maxRecDepth 8000 in
theorem kl8_len (t : List Int) : ∀ k, (kl8 t k).length = k
  | 0 => rfl
  | k + 1 => by rw [kl8, List.length_append, kl8_len t k]; rfl
set_option maxRecDepth 8000 in
theorem kl8_bn (t : List Int) : ∀ k, ∀ l ∈ kl8 t k, Bn 32 l
  | 0 => fun _ h => by cases h
  | k + 1 => fun l h => by
    rw [kl8] at h
    rcases List.mem_append.1 h with h | h
    · exact kl8_bn t k l h
    · rw [List.mem_singleton.1 h]; exact ky8_bn t k
set_option maxRecDepth 8000 in
theorem kl8_two (t : List Int) : kl8 t 2 = [hm8 t [1], hm8 t (hm8 t [1] ++ [2])] := rfl
set_option maxRecDepth 8000 in
theorem kl8_three (t : List Int) : kl8 t 3 = [hm8 t [1], hm8 t (hm8 t [1] ++ [2]), hm8 t (hm8 t (hm8 t [1] ++ [2]) ++ [3])] := rfl
set_option maxRecDepth 8000 in
theorem dv8_kl2 (c i : List Int) : kl8 (hm8 c i) 2 = dv8 c i 2 := rfl
set_option maxRecDepth 8000 in
theorem dv8_kl3 (c i : List Int) : kl8 (hm8 c i) 3 = dv8 c i 3 := rfl
set_option maxRecDepth 8000 in
theorem flat32 : ∀ {L : List (List Int)}, (∀ l ∈ L, Bn 32 l) → L.flatten.length = 32 * L.length
  | [], _ => rfl
  | l :: L, h => by
    rw [List.flatten_cons, List.length_append, flat32 (fun x hx => h x (by simp [hx])), (h l (by simp)).len, List.length_cons]
    omega
set_option maxRecDepth 8000 in
theorem flat_byt : ∀ {L : List (List Int)}, (∀ l ∈ L, Bn 32 l) → Byt L.flatten
  | [], _ => Byt.nil
  | l :: L, h => by
    rw [List.flatten_cons]
    exact (h l (by simp)).byt.app (flat_byt (fun x hx => h x (by simp [hx])))
set_option maxRecDepth 8000 in
theorem flat_at : ∀ {L : List (List Int)}, (∀ l ∈ L, Bn 32 l) → ∀ i, i < L.length → (L.flatten.drop (32 * i)).take 32 = L[i]?.getD []
  | [], _, i, hi => by simp at hi
  | l :: L, h, 0, _ => by
    have := (h l (by simp)).len
    rw [List.flatten_cons, Nat.mul_zero, List.drop_zero, List.take_append_of_le_length (by omega), List.take_of_length_le (by omega)]
    rfl
  | l :: L, h, i + 1, hi => by
    have e := (h l (by simp)).len
    have e2 : 32 * (i + 1) = l.length + 32 * i := by omega
    rw [List.flatten_cons, e2, ← List.drop_drop, List.drop_append_of_le_length (Nat.le_refl _), List.drop_of_length_le (Nat.le_refl _), List.nil_append, flat_at (fun x hx => h x (by simp [hx])) i (by simpa using hi)]
    simp
/-- A slice of arrays of thirty-two bytes. -/
structure RdA (u : World) (a : Option Addr) (m : Nat) (L : List (List Int)) : Prop where
  hlen : L.length = m
  bn : ∀ l ∈ L, Bn 32 l
  ar : 0 < m → ∃ g, a = some ⟨g, 0, none⟩ ∧ u.rangeAt g 0 (List.map (Value.int .u8) L.flatten)
set_option maxRecDepth 8000 in
theorem RdA.later {u u' : World} {a : Option Addr} {m : Nat} {L : List (List Int)} (h : RdA u a m L) (hb : Below u.heap.size u u') : RdA u' a m L := ⟨h.hlen, h.bn, fun h0 => by
  obtain ⟨g, ha, hr⟩ := h.ar h0
  exact ⟨g, ha, range_later hb hr⟩⟩
set_option maxRecDepth 8000 in
theorem RdA.nil (u : World) (a : Option Addr) : RdA u a 0 [] := ⟨rfl, (fun _ h => by cases h), fun h => absurd h (by decide)⟩
set_option maxRecDepth 8000 in
theorem RdA.at {u : World} {g m : Nat} {L : List (List Int)} (h : RdA u (some ⟨g, 0, none⟩) m L) (i : Nat) (hi : i < m) : u.rangeAt g (32 * i) (List.map (Value.int .u8) (L[i]?.getD [])) := by
  obtain ⟨g', ha, hr⟩ := h.ar (by omega)
  cases ha
  have := range_sub hr (32 * i) 32
  rw [← List.map_drop, ← List.map_take, flat_at h.bn i (by rw [h.hlen]; exact hi), Nat.zero_add] at this
  exact this
set_option maxRecDepth 8000 in
theorem RdA.rd {u : World} {g m : Nat} {L : List (List Int)} (h : RdA u (some ⟨g, 0, none⟩) m L) (i : Nat) (hi : i < m) : Rd u (some ⟨g, 32 * i, none⟩) 32 32 (L[i]?.getD []) := by
  have hr := h.at i hi
  have hL : i < L.length := by rw [h.hlen]; exact hi
  have hb : Bn 32 (L[i]?.getD []) := by rw [List.getElem?_eq_getElem hL]; exact h.bn _ (List.getElem_mem hL)
  refine ⟨hb.len, Nat.le_refl _, (fun e => by cases e), hb.byt, fun _ => ⟨g, 32 * i, rfl, fun j hj => ?_⟩⟩
  have hj2 : j < (L[i]?.getD []).length := by rw [hb.len]; exact hj
  exact hr j _ (by rw [List.getElem?_map, List.getElem?_eq_getElem hj2]; rfl)
end Go.Proofs.YtmibjgkakolhiaaDoor
