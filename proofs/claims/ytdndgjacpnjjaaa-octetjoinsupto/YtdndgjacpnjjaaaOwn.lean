/-
  Rows of bytes that the call owns and writes into, and a few laws on lists: for OctetXors. No statement of the seat is proved here.
-/
import Derived.Test.YtdndgjacpnjjaaaOpen
namespace Go.Proofs.Ytdndgjacpnjjaaa
open Go.RowKit

/-- The call owns a row of n bytes at block g, from B on. -/
def OwnB (B : Nat) (w : World) (g n : Nat) : Prop := ∃ zs : List Int, Byt zs ∧ w.ownsRow B 5 1 (.slice (some ⟨g, 0, none⟩) n n) n (zs.map (Value.int .u8))
theorem OwnB.bounds {B : Nat} {w : World} {g n : Nat} (h : OwnB B w g n) : B ≤ g ∧ g < w.heap.size := by
  obtain ⟨zs, _, ho⟩ := h
  exact ho.lt g rfl
theorem OwnB.cell {B : Nat} {w : World} {g n : Nat} (h : OwnB B w g n) (i : Nat) (hi : i < n) : ∃ v : Int, w.cell? ⟨g, i, none⟩ = some (.int .u8 v) ∧ 0 ≤ v ∧ v ≤ 255 := by
  obtain ⟨zs, hb, ho⟩ := h
  have hl : zs.length = n := by simpa using ho.1
  refine ⟨zs[i]?.getD 0, ?_, hb.at i⟩
  rw [World.ownsRow.cellAt ho i (by omega)]
  simp [List.getElem?_eq_getElem (show i < zs.length by omega)]
theorem OwnB.frozen {B : Nat} {w : World} {g n : Nat} (h : OwnB B w g n) (i : Nat) : w.frozen? ⟨g, i, none⟩ = false := by
  obtain ⟨zs, _, ho⟩ := h
  exact World.ownsRow.frozenAt ho i
theorem OwnB.below {B : Nat} {w w' : World} {g n : Nat} (h : OwnB B w g n) (hb : Below w.heap.size w w') : OwnB B w' g n := by
  obtain ⟨zs, hz, ho⟩ := h
  exact ⟨zs, hz, ho.kept (row := none) ⟨hb.os, hb.tape, hb.output, hb.size, fun k hk _ => hb.block k hk⟩ (.inr (by simp [Value.ownBlock]))⟩
theorem OwnB.set {B : Nat} {w : World} {g n : Nat} (h : OwnB B w g n) (i : Nat) (v : Int) (hv : 0 ≤ v ∧ v ≤ 255) : OwnB B (w.setCell ⟨g, i, none⟩ (.int .u8 v)) g n := by
  obtain ⟨zs, hz, ho⟩ := h
  refine ⟨zs.set i v, fun x hx => ?_, ?_⟩
  · rcases List.mem_or_eq_of_mem_set hx with h | rfl
    · exact hz x h
    · exact hv
  · rw [List.map_set]
    exact (ho.stored i _).1
theorem OwnB.other {B : Nat} {w : World} {g n : Nat} (h : OwnB B w g n) (g' i : Nat) (hg : g ≠ g') (u : Value) : OwnB B (w.setCell ⟨g', i, none⟩ u) g n := by
  obtain ⟨zs, hz, ho⟩ := h
  refine ⟨zs, hz, ho.1, ?_⟩
  rcases ho.2 with h2 | ⟨g2, cap, cur, hv, hb, hh, r⟩
  · exact .inl h2
  · refine .inr ⟨g2, cap, cur, hv, hb, ?_, r⟩
    cases hv
    rw [Below.heap_setCell _ _ _ _ hg]
    exact hh
theorem xor8_one (v : Int) (hv : 0 ≤ v ∧ v ≤ 255) : 0 ≤ bits .xor .u8 v 1 ∧ bits .xor .u8 v 1 ≤ 255 := by
  have := xor8 v 1 hv (by omega)
  exact ⟨this.1, this.2.1⟩
theorem xor8_back (x y : Int) (hx : 0 ≤ x ∧ x ≤ 255) (hy : 0 ≤ y ∧ y ≤ 255) : bits .xor .u8 (bits .xor .u8 x y) y = x := by
  have h := xor8 x y hx hy
  rw [u8_xor _ y (by omega) (by omega) (by omega) (by omega), u8_xor x y (by omega) (by omega) (by omega) (by omega), Int.toNat_natCast, Nat.xor_assoc, Nat.xor_self, Nat.xor_zero]
  omega
/-- With the same once more it is the first again, as far as both go. -/
theorem xorL_back {a b : List Int} (ha : Byt a) (hb : Byt b) : xorL (xorL a b) b = a.take (min a.length b.length) := by
  induction a generalizing b with
  | nil => simp [xorL]
  | cons x a ih =>
    cases b with
    | nil => simp [xorL]
    | cons y b =>
      have e := ih (fun z hz => ha z (List.mem_cons_of_mem _ hz)) (fun z hz => hb z (List.mem_cons_of_mem _ hz))
      have e2 : min (x :: a).length (y :: b).length = min a.length b.length + 1 := by simp only [List.length_cons]; omega
      rw [e2, List.take_succ_cons, ← e]
      simp only [xorL, List.zipWith_cons_cons, List.cons.injEq, and_true]
      exact xor8_back x y (ha x (by simp)) (hb y (by simp))
theorem str_eq {a b : List Int} (ha : Byt a) (hb : Byt b) : ((strOfNums a).data.toList == (strOfNums b).data.toList) = decide (a = b) := by
  by_cases h : a = b
  · subst h; simp
  · have : strOfNums a ≠ strOfNums b := fun e => h (str_inj ha hb e)
    have e2 : (strOfNums a).data.toList ≠ (strOfNums b).data.toList := fun e => this (ByteArray.ext (by rw [← Array.toList_inj]; exact e))
    have e3 : decide (a = b) = false := by simp [h]
    rw [e3, beq_eq_false_iff_ne]
    exact e2
theorem str_eq' {a b : List Int} (ha : Byt a) (hb : Byt b) : ((strOfNums a).toList == (strOfNums b).toList) = decide (a = b) := by
  rw [← str_eq ha hb, ByteArray.toList_eq, ByteArray.toList_eq]
/-- 'Few(b, len(b))': all of it, in new memory. -/
theorem few_all (a : Option Addr) (len cap : Nat) (l : List Int) (w : World) (hr : Rd w a len cap l) (hm : len ≤ 140737488351232) :
    Calls Try.prog 17 #[.slice a len cap, .int .i64 len] w fun e w' => ∃ a' c', e = .returned (.slice a' len c') ∧ Rd w' a' len c' l ∧ Below w.heap.size w w' := by
  refine (few_any a len cap l len w hr hm (by omega) (by omega)).mono ?_
  rintro e w' ⟨a', c', rfl, ho, hb⟩
  have e1 : l.take (len : Int).toNat = l := List.take_of_length_le (by rw [Int.toNat_natCast, hr.hlen]; omega)
  rw [e1, hr.hlen] at ho ⊢
  exact ⟨a', c', rfl, Rd.owns hr.byt ho, hb⟩
theorem clone_g (a : Option Addr) (len cap : Nat) (l : List Int) (w : World) (h : Rd w a len cap l) (hm : len ≤ 281474976710656) :
    Calls Try.prog 19 #[.slice a len cap] w fun e w' => ∃ g, e = .returned (.slice (some ⟨g, 0, none⟩) len len) ∧ OwnB w.heap.size w' g len ∧ Rd w' (some ⟨g, 0, none⟩) len len l ∧ Below w.heap.size w w' :=
  (clone_any a len cap l w h hm).mono fun _ _ ⟨g, h1, _, ho, hb⟩ => ⟨g, h1, ⟨l, h.byt, ho⟩, Rd.owns h.byt ho, hb⟩
theorem xor_o (a : Option Addr) (la ca : Nat) (x : List Int) (b : Option Addr) (lb cb : Nat) (y : List Int) (w : World) (ha : Rd w a la ca x) (hb : Rd w b lb cb y) (ma : la ≤ 281474976710656) (mb : lb ≤ 281474976710656) :
    Calls Try.prog 18 #[.slice a la ca, .slice b lb cb] w fun e w' => ∃ g m, e = .returned (.slice (some ⟨g, 0, none⟩) m m) ∧ Hid (m = min la lb) ∧ OwnB w.heap.size w' g m ∧ Rd w' (some ⟨g, 0, none⟩) m m (xorL x y) ∧ Below w.heap.size w w' :=
  (xor_g a la ca x b lb cb y w ha hb ma mb).mono fun _ _ ⟨g, m, h1, hm, ho, hr, hbl⟩ => ⟨g, m, h1, hm, ⟨_, hr.byt, ho⟩, hr, hbl⟩
theorem refxor_g (a : Option Addr) (la ca : Nat) (x : List Int) (b : Option Addr) (lb cb : Nat) (y : List Int) (w : World) (ha : Rd w a la ca x) (hb : Rd w b lb cb y) (ma : la ≤ 140737488351232) (mb : lb ≤ 140737488351232) :
    Calls Try.prog 20 #[.slice a la ca, .slice b lb cb] w fun e w' => ∃ a' m c', e = .returned (.slice a' m c') ∧ Rd w' a' m c' (xorL x y) ∧ Below w.heap.size w w' :=
  (refxor_any a la ca x b lb cb y w ha hb ma mb).mono fun _ _ ⟨a', c', h⟩ => ⟨a', _, c', h⟩
theorem join_o (a : Option Addr) (len cap : Nat) (L : List (List Int)) (w : World) (h : RdL w a len L) (hlen : len ≤ 281474976710656) (hT : L.flatten.length ≤ 281474976710656) :
    Calls Try.prog 10 #[.slice a len cap] w fun e w' => ∃ g m, e = .returned (.slice (some ⟨g, 0, none⟩) m m) ∧ Hid (m = L.flatten.length) ∧ OwnB w.heap.size w' g m ∧ Rd w' (some ⟨g, 0, none⟩) m m L.flatten ∧ Below w.heap.size w w' :=
  (join_g a len cap L w h hlen hT).mono fun _ _ ⟨g, m, h1, hm, ho, hr, hbl⟩ => ⟨g, m, h1, hm, ⟨_, hr.byt, ho⟩, hr, hbl⟩
theorem Rd.cut {w : World} {a : Option Addr} {len cap : Nat} {l : List Int} (h : Rd w a len cap l) (k : Nat) (hk : k ≤ len) : Rd w a k cap (l.take k) :=
  ⟨by rw [List.length_take, h.hlen]; omega, Nat.le_trans hk h.hle, h.hnil, h.byt.take k, fun h0 => by
    obtain ⟨b, off, ha, hc⟩ := h.cell (by omega)
    refine ⟨b, off, ha, fun i hi => ?_⟩
    rw [hc i (by omega), List.getElem?_take_of_lt hi]⟩
end Go.Proofs.Ytdndgjacpnjjaaa
