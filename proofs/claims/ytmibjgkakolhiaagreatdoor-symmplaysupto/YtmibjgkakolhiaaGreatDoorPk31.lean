/-
  Several texts of one's own, laid together. No statement of the seat is proved here.
-/
import Derived.Test.YtmibjgkakolhiaaGreatDoorPk1
import Derived.Test.YtmibjgkakolhiaaGreatDoorPk17
import Derived.Test.YtmibjgkakolhiaaGreatDoorPk30
import Derived.Test.YtmibjgkakolhiaaGreatDoorPk13
/-
 What a State's Seal and Open do. No statement of the seat is proved here.
-/
namespace Go.Proofs.YtmibjgkakolhiaaGreatDoor
open Go.RowKit

set_option maxRecDepth 8000 in
theorem sx9_no (k : List Int) (h : Bool) (n : Int) (ad t : List Int) (he : se9 h n ≠ 0) : sx9 k h n ad t = [] := by
 unfold se9 at he
 unfold sx9
 cases h with
 | false => exact absurd rfl he
 | true =>
  rw [if_pos rfl] at he ⊢
  by_cases hn : n = 18446744073709551615
  ·rw [if_pos hn]
  ·rw [if_neg hn] at he
   exact absurd rfl he
set_option maxRecDepth 8000 in
theorem ox9_no (k : List Int) (h : Bool) (n : Int) (ad t : List Int) (he : oe9 k h n ad t ≠ 0) : ox9 k h n ad t = [] := by
 unfold oe9 at he
 unfold ox9
 cases h with
 | false => exact absurd rfl he
 | true =>
  rw [if_pos rfl] at he ⊢
  by_cases hn : n = 18446744073709551615
  ·rw [if_pos hn]
  ·rw [if_neg hn] at he ⊢
   exact op6_not _ _ _ _ he
set_option maxRecDepth 8000 in
set_option maxHeartbeats 4000000 in
theorem seal10_c (b : Nat) (k : List Int) (h : Bool) (n : Int) (H C : List Int) (at' : Option Addr) (lt ct : Nat) (text : List Int) (w : World) (hs : My w b k h n H C) (hrt : Rd w at' lt ct text) (hg : Gb w) (hb0 : 3 < b) (hb1 : 4 < b) (hm : lt ≤ 140737488351232) :
  Calls Tryz.prog 19 #[.pointer (some ⟨b, 0, none⟩), .slice at' lt ct] w fun e w' => ∃ a1 m1 c1 X E n', e = .returned (.tuple #[.slice a1 m1 c1, .int .i64 E]) ∧ Hid (X = sx9 k h n H text) ∧ Hid (E = se9 h n) ∧ Hid (n' = sn9 h n) ∧ Hid (Rd w' a1 m1 c1 X) ∧ Hid (My w' b k h n' (h10 E H X) C) ∧ ExtB b w w' ∧ Fr w.heap.size a1 m1 ∧ m1 ≤ lt + 16 := by
 have HS : Hid (My w b k h n H C) := hs
 have HG : Hid (Gb w) := hg
 have HRT : Hid (Rd w at' lt ct text) := hrt
 have HLT : Hid (b < w.heap.size) := hs.lt
 clear hs hrt hg
 go_enter Tryz.func19, Tryz.ntmps19
 go_upto_region 1 with fail
 refine wp_region_noPanic ?_
 refine wp_region_held_drew (S := ExtB b w) (by kernel_rfl) (ExtB.refl b w).drew (fun hH => ?_)
 change wpAnyH _ _ _ _ _ _ #[false, false, false, false, false, false, false, false, false, false, false, false, false, false] _ _
 refine tk 0 ?_
 try simp only [Act.put, List.setIfInBounds_toArray, List.set_cons_zero, List.set_cons_succ]
 refine tk 1 ?_
 try simp only [Act.put, List.setIfInBounds_toArray, List.set_cons_zero, List.set_cons_succ]
 refine tk 2 ?_
 try simp only [Act.put, List.setIfInBounds_toArray, List.set_cons_zero, List.set_cons_succ]
 refine tk 3 ?_
 try simp only [Act.put, List.setIfInBounds_toArray, List.set_cons_zero, List.set_cons_succ]
 refine tk 4 ?_
 try simp only [Act.put, List.setIfInBounds_toArray, List.set_cons_zero, List.set_cons_succ]
 refine tk 5 ?_
 try simp only [Act.put, List.setIfInBounds_toArray, List.set_cons_zero, List.set_cons_succ]
 refine tk 6 ?_
 try simp only [Act.put, List.setIfInBounds_toArray, List.set_cons_zero, List.set_cons_succ]
 refine tk 7 ?_
 try simp only [Act.put, List.setIfInBounds_toArray, List.set_cons_zero, List.set_cons_succ]
 refine rdy 8 (fun K hK => ?_)
 go_simp
 refine (seal9o_c b 0 k h n (some ⟨b, 34, none⟩) 32 32 H at' lt ct text _ HS.out.drew.sy HS.out.drew.rdH (HRT.out.below (Below.refl _ _).drew) (by decide) (by omega)).mono ?_
 rintro e V ⟨a1, m1, c1, X, E, n', rfl, hm1, HX, HE, HN, RX, HT, hx, hfr⟩
 refine hK.out _ _ ((ExtB.refl b w).drew.comp hx.ext) (fun hH' => ?_)
 clear hK K hH; have hH := hH'; clear hH'; try simp only [List.setIfInBounds_toArray, List.set]
 refine tk 9 ?_
 try simp only [Act.put, List.setIfInBounds_toArray, List.set_cons_zero, List.set_cons_succ]
 refine tk 10 ?_
 try simp only [Act.put, List.setIfInBounds_toArray, List.set_cons_zero, List.set_cons_succ]
 refine tk 11 ?_
 try simp only [Act.put, List.setIfInBounds_toArray, List.set_cons_zero, List.set_cons_succ]
 refine tk 12 ?_
 try simp only [Act.put, List.setIfInBounds_toArray, List.set_cons_zero, List.set_cons_succ]
 refine tk 13 ?_
 try simp only [Act.put, List.setIfInBounds_toArray, List.set_cons_zero, List.set_cons_succ]
 refine wpAnyH_done (by kernel_rfl) ?_ _
 refine NoPanic.normal ?_
 have HFR : Hid (Fr w.heap.size a1 m1) := hfr.mono (Nat.le_refl _)
 replace RX : Hid (Rd V a1 m1 c1 X) := RX
 have HE' : Hid (ExtB b w V) := hH
 replace HS := hidp (HS.out.drew.cip HT.out hx)
 replace HG := hidp (HG.out.extb hH hb0 hb1)
 clear HT hx hfr hH HRT
 by_cases h0 : E = 0
 ·subst h0
  go_wp2_with fail
  refine (mixhash10_c b k h n' H C a1 m1 c1 X _ HS.out RX.out HG.out (by omega)).mono ?_
  rintro e V2 ⟨rfl, HS2, hx⟩
  replace RX : Hid (Rd V2 a1 m1 c1 X) := RX.out.nq hx (HFR.out.nq HLT.out)
  replace HE' : Hid (ExtB b w V2) := HE'.out.comp hx
  clear hx HS HG
  go_wp2
  go_ret2
  exact ⟨a1, m1, c1, X, 0, n', rfl, HX, HE, HN, RX, by unfold Hid h10; rw [if_pos rfl]; exact HS2.out, HE'.out, HFR.out, hm1⟩
 ·have hX0 : X = [] := by rw [HX.out]; exact sx9_no _ _ _ _ _ (by rw [← HE.out]; exact h0)
  rw [hX0] at HX
  clear hX0 RX HG HFR
  go_wp2
  go_ret2
  exact ⟨none, 0, 0, [], E, n', rfl, HX, HE, HN, Rd.nil _ _ _ (fun _ => rfl), by unfold Hid h10; rw [if_neg h0]; exact HS.out, HE'.out, fr_nil, by omega⟩
set_option maxRecDepth 8000 in
set_option maxHeartbeats 4000000 in
theorem open10_c (b : Nat) (k : List Int) (h : Bool) (n : Int) (H C : List Int) (at' : Option Addr) (lt ct : Nat) (text : List Int) (w : World) (hs : My w b k h n H C) (hrt : Rd w at' lt ct text) (hg : Gb w) (hb0 : 3 < b) (hb1 : 4 < b) (hm : lt ≤ 140737488351248) :
  Calls Tryz.prog 13 #[.pointer (some ⟨b, 0, none⟩), .slice at' lt ct] w fun e w' => ∃ a1 m1 c1 X E n', e = .returned (.tuple #[.slice a1 m1 c1, .int .i64 E]) ∧ Hid (X = ox9 k h n H text) ∧ Hid (E = oe9 k h n H text) ∧ Hid (n' = on9 k h n H text) ∧ Hid (Rd w' a1 m1 c1 X) ∧ Hid (My w' b k h n' (h10 E H text) C) ∧ ExtB b w w' ∧ Fr w.heap.size a1 m1 := by
 have HS : Hid (My w b k h n H C) := hs
 have HG : Hid (Gb w) := hg
 have HRT : Hid (Rd w at' lt ct text) := hrt
 have HLT : Hid (b < w.heap.size) := hs.lt
 clear hs hrt hg
 go_enter Tryz.func13, Tryz.ntmps13
 go_upto_region 1 with fail
 refine wp_region_noPanic ?_
 refine wp_region_held_drew (S := ExtB b w) (by kernel_rfl) (ExtB.refl b w).drew (fun hH => ?_)
 change wpAnyH _ _ _ _ _ _ #[false, false, false, false, false, false, false, false, false, false, false, false, false, false] _ _
 refine tk 0 ?_
 try simp only [Act.put, List.setIfInBounds_toArray, List.set_cons_zero, List.set_cons_succ]
 refine tk 1 ?_
 try simp only [Act.put, List.setIfInBounds_toArray, List.set_cons_zero, List.set_cons_succ]
 refine tk 2 ?_
 try simp only [Act.put, List.setIfInBounds_toArray, List.set_cons_zero, List.set_cons_succ]
 refine tk 3 ?_
 try simp only [Act.put, List.setIfInBounds_toArray, List.set_cons_zero, List.set_cons_succ]
 refine tk 4 ?_
 try simp only [Act.put, List.setIfInBounds_toArray, List.set_cons_zero, List.set_cons_succ]
 refine tk 5 ?_
 try simp only [Act.put, List.setIfInBounds_toArray, List.set_cons_zero, List.set_cons_succ]
 refine tk 6 ?_
 try simp only [Act.put, List.setIfInBounds_toArray, List.set_cons_zero, List.set_cons_succ]
 refine tk 7 ?_
 try simp only [Act.put, List.setIfInBounds_toArray, List.set_cons_zero, List.set_cons_succ]
 refine rdy 8 (fun K hK => ?_)
 go_simp
 refine (open9o_c b 0 k h n (some ⟨b, 34, none⟩) 32 32 H at' lt ct text _ HS.out.drew.sy HS.out.drew.rdH (HRT.out.below (Below.refl _ _).drew) (by decide) (by omega)).mono ?_
 rintro e V ⟨a1, m1, c1, X, E, n', rfl, HX, HE, HN, RX, HT, hx, hkp, hfr⟩
 refine hK.out _ _ ((ExtB.refl b w).drew.comp hx.ext) (fun hH' => ?_)
 clear hK K hH; have hH := hH'; clear hH'; try simp only [List.setIfInBounds_toArray, List.set]
 refine tk 9 ?_
 try simp only [Act.put, List.setIfInBounds_toArray, List.set_cons_zero, List.set_cons_succ]
 refine tk 10 ?_
 try simp only [Act.put, List.setIfInBounds_toArray, List.set_cons_zero, List.set_cons_succ]
 refine tk 11 ?_
 try simp only [Act.put, List.setIfInBounds_toArray, List.set_cons_zero, List.set_cons_succ]
 refine tk 12 ?_
 try simp only [Act.put, List.setIfInBounds_toArray, List.set_cons_zero, List.set_cons_succ]
 refine tk 13 ?_
 try simp only [Act.put, List.setIfInBounds_toArray, List.set_cons_zero, List.set_cons_succ]
 refine wpAnyH_done (by kernel_rfl) ?_ _
 refine NoPanic.normal ?_
 have HFR : Hid (Fr w.heap.size a1 m1) := hfr.mono (Nat.le_refl _)
 replace RX : Hid (Rd V a1 m1 c1 X) := RX
 have HE' : Hid (ExtB b w V) := hH
 replace HS := hidp (HS.out.drew.cip HT.out hx)
 replace HG := hidp (HG.out.extb hH hb0 hb1)
 replace HRT : Hid (Rd V at' lt ct text) := hkp _ _ _ _ (HRT.out.below (Below.refl _ _).drew)
 clear hkp
 clear HT hx hfr hH
 by_cases h0 : E = 0
 ·subst h0
  go_wp2_with fail
  refine (mixhash10_c b k h n' H C at' lt ct text _ HS.out HRT.out HG.out (by omega)).mono ?_
  rintro e V2 ⟨rfl, HS2, hx⟩
  replace RX : Hid (Rd V2 a1 m1 c1 X) := RX.out.nq hx (HFR.out.nq HLT.out)
  replace HE' : Hid (ExtB b w V2) := HE'.out.comp hx
  clear hx HS HG HRT
  go_wp2
  go_ret2
  exact ⟨a1, m1, c1, X, 0, n', rfl, HX, HE, HN, RX, by unfold Hid h10; rw [if_pos rfl]; exact HS2.out, HE'.out, HFR.out⟩
 ·have hX0 : X = [] := by rw [HX.out]; exact ox9_no _ _ _ _ _ (by rw [← HE.out]; exact h0)
  rw [hX0] at HX
  clear hX0 RX HG HFR HRT
  go_wp2
  go_ret2
  exact ⟨none, 0, 0, [], E, n', rfl, HX, HE, HN, Rd.nil _ _ _ (fun _ => rfl), by unfold Hid h10; rw [if_neg h0]; exact HS.out, HE'.out, fr_nil⟩
end Go.Proofs.YtmibjgkakolhiaaGreatDoor
/-
 HMAC's block byte by byte, the keys one by one, lists of keys in memory. No statement of the seat is proved here.
-/
namespace Go.Proofs.YtmibjgkakolhiaaGreatDoor
open Go.RowKit

set_option maxRecDepth 8000 in
theorem pad8_copy (c : List Int) : (List.replicate 64 (0 : Int)).take 0 ++ (c ++ (List.replicate 64 0).drop (0 + c.length)) = pad7 c := by
 unfold pad7
 rw [List.take_zero, List.nil_append, Nat.zero_add, List.drop_replicate]
/-- The first k bytes bear the mark. -/
def xw8 (x : Int) (B : List Int) (k : Nat) : List Int := xm8 x (B.take k) ++ B.drop k
set_option maxRecDepth 8000 in
theorem xw8_zero (x : Int) (B : List Int) : xw8 x B 0 = B := by unfold xw8 xm8; rw [List.take_zero, List.map_nil, List.drop_zero, List.nil_append]
set_option maxRecDepth 8000 in
theorem xw8_all (x : Int) (B : List Int) {n : Nat} (h : B.length = n) : xw8 x B n = xm8 x B := by
 unfold xw8
 rw [List.take_of_length_le (by omega), List.drop_of_length_le (by omega), List.append_nil]
set_option maxRecDepth 8000 in
theorem xw8_cut (x : Int) (B : List Int) (k : Nat) (h : k < B.length) : xw8 x B k = xm8 x (B.take k) ++ B[k]! :: B.drop (k + 1) := by
 unfold xw8
 rw [List.drop_eq_getElem_cons h, getElem!_pos B k h]
set_option maxRecDepth 8000 in
theorem xw8_plen (x : Int) (B : List Int) (k : Nat) (h : k < B.length) : (xm8 x (B.take k)).length = k := by rw [xm8_len, List.length_take]; omega
set_option maxRecDepth 8000 in
theorem xw8_get (x : Int) (B : List Int) (k : Nat) (h : k < B.length) : (xw8 x B k)[k]? = some B[k]! := by
 rw [xw8_cut x B k h, List.getElem?_append_right (by rw [xw8_plen x B k h]; exact Nat.le_refl _), xw8_plen x B k h, Nat.sub_self]
 rfl
set_option maxRecDepth 8000 in
theorem xw8_succ (x : Int) (B : List Int) (k : Nat) (h : k < B.length) : xw8 x B (k + 1) = (xw8 x B k).set k (bits .xor .u8 B[k]! x) := by
 rw [xw8_cut x B k h, List.set_append_right _ _ (by rw [xw8_plen x B k h]; exact Nat.le_refl _), xw8_plen x B k h, Nat.sub_self, List.set_cons_zero]
 unfold xw8
 rw [List.take_succ_eq_append_getElem h]
 unfold xm8
 rw [List.map_append, List.map_cons, List.map_nil, List.append_assoc, getElem!_pos B k h]
 rfl
set_option maxRecDepth 8000 in
theorem byte_at {n : Nat} {B : List Int} (h : Bn n B) (k : Nat) (hk : k < n) : ∃ y, 0 ≤ y ∧ y ≤ 255 ∧ B[k]! = y := by
 have hl : k < B.length := by rw [h.len]; exact hk
 have := h.byt _ (List.getElem_mem hl)
 exact ⟨B[k], this.1, this.2, getElem!_pos B k hl⟩
set_option maxRecDepth 8000 in
theorem cell8 {u : World} {b n k : Nat} {l : List Int} {y : Int} (h : Ar u b n (List.map (Value.int .u8) l)) (hg : l[k]? = some y) (hk : k < n) : u.cell? ⟨b, k, none⟩ = some (.int .u8 y) ∧ u.frozen? ⟨b, k, none⟩ = false := by
 have h1 := h.rng k (.int .u8 y) (by rw [List.getElem?_map, hg]; rfl)
 rw [Nat.zero_add] at h1
 exact ⟨h1, (h.cell k hk).2⟩
/-! ### The keys, one behind the other -/
def ky8 (t : List Int) : Nat → List Int
 | 0 => []
 | k + 1 => hm8 t (ky8 t k ++ [((k + 1 : Nat) : Int)])
set_option maxRecDepth 8000 in
theorem ky8_bn (t : List Int) (k : Nat) : Bn 32 (ky8 t (k + 1)) := hm8_bn _ _
def kl8 (t : List Int) : Nat → List (List Int)
 | 0 => []
 | k + 1 => kl8 t k ++ [ky8 t (k + 1)]
set_option maxRecDepth 8000 in
theorem kl8_len (t : List Int) : ∀ k, (kl8 t k).length = k
 | 0 => rfl
 | k + 1 => by rw [kl8, List.length_append, kl8_len t k]; rfl
set_option maxRecDepth 8000 in
theorem kl8_bn (t : List Int) : ∀ k, ∀ l ∈ kl8 t k, Bn 32 l
 | 0 => fun _ h => by cases h
 | k + 1 => fun l h => by
  rw [kl8] at h
  rcases List.mem_append.1 h with h | h
  ·exact kl8_bn t k l h
  ·rw [List.mem_singleton.1 h]; exact ky8_bn t k
set_option maxRecDepth 8000 in
theorem kl8_two (t : List Int) : kl8 t 2 = [hm8 t [1], hm8 t (hm8 t [1] ++ [2])] := rfl
set_option maxRecDepth 8000 in
theorem kl8_three (t : List Int) : kl8 t 3 = [hm8 t [1], hm8 t (hm8 t [1] ++ [2]), hm8 t (hm8 t (hm8 t [1] ++ [2]) ++ [3])] := rfl
set_option maxRecDepth 8000 in
theorem dv8_kl2 (c i : List Int) : kl8 (hm8 c i) 2 = dv8 c i 2 := rfl
set_option maxRecDepth 8000 in
theorem dv8_kl3 (c i : List Int) : kl8 (hm8 c i) 3 = dv8 c i 3 := rfl
set_option maxRecDepth 8000 in
theorem flat32 : ∀ {L : List (List Int)}, (∀ l ∈ L, Bn 32 l) → L.flatten.length = 32 * L.length
 | [], _ => rfl
 | l :: L, h => by
  rw [List.flatten_cons, List.length_append, flat32 (fun x hx => h x (by simp [hx])), (h l (by simp)).len, List.length_cons]
  omega
set_option maxRecDepth 8000 in
theorem flat_byt : ∀ {L : List (List Int)}, (∀ l ∈ L, Bn 32 l) → Byt L.flatten
 | [], _ => Byt.nil
 | l :: L, h => by
  rw [List.flatten_cons]
  exact (h l (by simp)).byt.app (flat_byt (fun x hx => h x (by simp [hx])))
set_option maxRecDepth 8000 in
theorem flat_at : ∀ {L : List (List Int)}, (∀ l ∈ L, Bn 32 l) → ∀ i, i < L.length → (L.flatten.drop (32 * i)).take 32 = L[i]?.getD []
 | [], _, i, hi => by simp at hi
 | l :: L, h, 0, _ => by
  have := (h l (by simp)).len
  rw [List.flatten_cons, Nat.mul_zero, List.drop_zero, List.take_append_of_le_length (by omega), List.take_of_length_le (by omega)]
  rfl
 | l :: L, h, i + 1, hi => by
  have e := (h l (by simp)).len
  have e2 : 32 * (i + 1) = l.length + 32 * i := by omega
  rw [List.flatten_cons, e2, ← List.drop_drop, List.drop_append_of_le_length (Nat.le_refl _), List.drop_of_length_le (Nat.le_refl _), List.nil_append, flat_at (fun x hx => h x (by simp [hx])) i (by simpa using hi)]
  simp
/-- A slice of arrays of thirty-two bytes. -/
structure RdA (u : World) (a : Option Addr) (m : Nat) (L : List (List Int)) : Prop where
 hlen : L.length = m
 bn : ∀ l ∈ L, Bn 32 l
 ar : 0 < m → ∃ g, a = some ⟨g, 0, none⟩ ∧ u.rangeAt g 0 (List.map (Value.int .u8) L.flatten)
set_option maxRecDepth 8000 in
theorem RdA.later {u u' : World} {a : Option Addr} {m : Nat} {L : List (List Int)} (h : RdA u a m L) (hb : Below u.heap.size u u') : RdA u' a m L := ⟨h.hlen, h.bn, fun h0 => by
 obtain ⟨g, ha, hr⟩ := h.ar h0
 exact ⟨g, ha, range_later hb hr⟩⟩
set_option maxRecDepth 8000 in
theorem RdA.nil (u : World) (a : Option Addr) : RdA u a 0 [] := ⟨rfl, (fun _ h => by cases h), fun h => absurd h (by decide)⟩
set_option maxRecDepth 8000 in
theorem RdA.at {u : World} {g m : Nat} {L : List (List Int)} (h : RdA u (some ⟨g, 0, none⟩) m L) (i : Nat) (hi : i < m) : u.rangeAt g (32 * i) (List.map (Value.int .u8) (L[i]?.getD [])) := by
 obtain ⟨g', ha, hr⟩ := h.ar (by omega)
 cases ha
 have := range_sub hr (32 * i) 32
 rw [← List.map_drop, ← List.map_take, flat_at h.bn i (by rw [h.hlen]; exact hi), Nat.zero_add] at this
 exact this
set_option maxRecDepth 8000 in
theorem RdA.rd {u : World} {g m : Nat} {L : List (List Int)} (h : RdA u (some ⟨g, 0, none⟩) m L) (i : Nat) (hi : i < m) : Rd u (some ⟨g, 32 * i, none⟩) 32 32 (L[i]?.getD []) := by
 have hr := h.at i hi
 have hL : i < L.length := by rw [h.hlen]; exact hi
 have hb : Bn 32 (L[i]?.getD []) := by rw [List.getElem?_eq_getElem hL]; exact h.bn _ (List.getElem_mem hL)
 refine ⟨hb.len, Nat.le_refl _, (fun e => by cases e), hb.byt, fun _ => ⟨g, 32 * i, rfl, fun j hj => ?_⟩⟩
 have hj2 : j < (L[i]?.getD []).length := by rw [hb.len]; exact hj
 exact hr j _ (by rw [List.getElem?_map, List.getElem?_eq_getElem hj2]; rfl)
end Go.Proofs.YtmibjgkakolhiaaGreatDoor
