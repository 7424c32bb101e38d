/-
  Several texts of one's own, laid together. No statement of the seat is proved here.
-/
import Derived.Test.YtjmdgmbkkkoamaaDoorVSeal
import Derived.Test.YtjmdgmbkkkoamaaDoorVOpen
import Derived.Test.YtjmdgmbkkkoamaaDoorR9K
import Derived.Test.YtjmdgmbkkkoamaaDoorPk3
import Derived.Deep.Slices
/-
  Seal, Open and Rekey of a State and of the reference's Cipher, whatever state they are in: both by the same words. No statement of the seat is proved here.
-/
namespace Go.Proofs.YtjmdgmbkkkoamaaDoor
open Go.RowKit

def sx9 (k : List Int) (h : Bool) (n : Int) (ad t : List Int) : List Int := if h = true then (if n = 18446744073709551615 then [] else se6 k (nn6 n) ad t) else t
def se9 (h : Bool) (n : Int) : Int := if h = true then (if n = 18446744073709551615 then 9 else 0) else 0
def sn9 (h : Bool) (n : Int) : Int := if h = true then (if n = 18446744073709551615 then n else n + 1) else n
def ox9 (k : List Int) (h : Bool) (n : Int) (ad b : List Int) : List Int := if h = true then (if n = 18446744073709551615 then [] else op6 k (nn6 n) ad b) else b
def oe9 (k : List Int) (h : Bool) (n : Int) (ad b : List Int) : Int := if h = true then (if n = 18446744073709551615 then 9 else er6 k (nn6 n) ad b) else 0
def on9 (k : List Int) (h : Bool) (n : Int) (ad b : List Int) : Int := if h = true then (if n = 18446744073709551615 then n else (if er6 k (nn6 n) ad b = 0 then n + 1 else n)) else n
def rk9e (h : Bool) : Int := if h = true then 0 else 4
def rk9k (k : List Int) (h : Bool) : List Int := if h = true then rk9 k else k
set_option maxRecDepth 8000 in
theorem extb_of {b : Nat} {w w' : World} (h : Below w.heap.size w w') : ExtB b w w' := ⟨h.os, h.tape, h.output, h.size, fun i hi _ => h.block i hi⟩
set_option maxRecDepth 8000 in
theorem seal9_c (b : Nat) (k : List Int) (h : Bool) (n : Int) (aa : Option Addr) (la ca : Nat) (ad : List Int) (at' : Option Addr) (lt ct : Nat) (text : List Int) (w : World) (hs : Sx w b k h n) (hra : Rd w aa la ca ad) (hrt : Rd w at' lt ct text) (ha : la ≤ 140737488351232) (hm : lt ≤ 140737488351232) :
    Calls Tryd.prog 20 #[.pointer (some ⟨b, 0, none⟩), .slice aa la ca, .slice at' lt ct] w fun e w' => ∃ a m c X E n', e = .returned (.tuple #[.slice a m c, .int .i64 E]) ∧ m ≤ lt + 16 ∧ Hid (X = sx9 k h n ad text) ∧ Hid (E = se9 h n) ∧ Hid (n' = sn9 h n) ∧ Hid (Rd w' a m c X) ∧ Hid (Sx w' b k h n') ∧ ExtB b w w' := by
  cases h with
  | false =>
    refine (seal9_none b k n aa la ca ad at' lt ct text w hs hrt hm).mono ?_
    rintro e w' ⟨g, rfl, -, ho, hs', hb⟩
    exact ⟨_, lt, lt, text, 0, n, rfl, by omega, rfl, rfl, rfl, ho.out.rd, hs', extb_of hb⟩
  | true =>
    by_cases hn : n = 18446744073709551615
    · refine (seal9_last b k n aa la ca ad at' lt ct text w hs hn).mono ?_
      rintro e w' ⟨rfl, rfl⟩
      exact ⟨none, 0, 0, [], 9, n, rfl, by omega, by unfold Hid sx9; rw [if_pos rfl, if_pos hn], by unfold Hid se9; rw [if_pos rfl, if_pos hn], by unfold Hid sn9; rw [if_pos rfl, if_pos hn], Rd.nil _ _ _ (fun _ => rfl), hs, ExtB.refl _ _⟩
    · refine (seal9_yes b k n aa la ca ad at' lt ct text w hs hn hra hrt ha hm).mono ?_
      rintro e w' ⟨g, m, X, n', rfl, -, hm', hX, hn', ho, hs', hb⟩
      exact ⟨_, m, m, X, 0, n', rfl, by have := hm'.out; omega, by unfold Hid sx9; rw [if_pos rfl, if_neg hn]; exact hX.out, by unfold Hid se9; rw [if_pos rfl, if_neg hn], by unfold Hid sn9; rw [if_pos rfl, if_neg hn]; exact hn'.out, ho.out.rd, hs', hb⟩
set_option maxRecDepth 8000 in
theorem rseal9_c (b : Nat) (k : List Int) (h : Bool) (n : Int) (aa : Option Addr) (la ca : Nat) (ad : List Int) (at' : Option Addr) (lt ct : Nat) (text : List Int) (w : World) (hs : Cx w b k h n) (hra : Rd w aa la ca ad) (hrt : Rd w at' lt ct text) (hg : Gr w) (hb0 : 0 < b) (hm : la + lt + 46 ≤ 2097152) :
    Calls Tryd.prog 7 #[.pointer (some ⟨b, 0, none⟩), .slice aa la ca, .slice at' lt ct] w fun e w' => ∃ a m c X E n', e = .returned (.tuple #[.slice a m c, .int .i64 E]) ∧ m ≤ lt + 16 ∧ Hid (X = sx9 k h n ad text) ∧ Hid (E = se9 h n) ∧ Hid (n' = sn9 h n) ∧ Hid (Rd w' a m c X) ∧ Hid (Cx w' b k h n') ∧ ExtB b w w' ∧ Kp w w' := by
  cases h with
  | false =>
    refine (rseal9_none b k n aa la ca ad at' lt ct text w hs).mono ?_
    rintro e w' ⟨rfl, rfl⟩
    exact ⟨_, lt, ct, text, 0, n, rfl, by omega, rfl, rfl, rfl, hrt, hs, ExtB.refl _ _, Kp.refl _⟩
  | true =>
    by_cases hn : n = 18446744073709551615
    · refine (rseal9_last b k n aa la ca ad at' lt ct text w hs hn).mono ?_
      rintro e w' ⟨rfl, rfl⟩
      exact ⟨none, 0, 0, [], 9, n, rfl, by omega, by unfold Hid sx9; rw [if_pos rfl, if_pos hn], by unfold Hid se9; rw [if_pos rfl, if_pos hn], by unfold Hid sn9; rw [if_pos rfl, if_pos hn], Rd.nil _ _ _ (fun _ => rfl), hs, ExtB.refl _ _, Kp.refl _⟩
    · refine (rseal9_yes b k n aa la ca ad at' lt ct text w hs hn hra hrt hg hb0 hm).mono ?_
      rintro e w' ⟨a', m, c', X, n', rfl, hm', hX, hn', ho, hs', hb, hkp⟩
      exact ⟨_, m, c', X, 0, n', rfl, by have := hm'.out; omega, by unfold Hid sx9; rw [if_pos rfl, if_neg hn]; exact hX.out, by unfold Hid se9; rw [if_pos rfl, if_neg hn], by unfold Hid sn9; rw [if_pos rfl, if_neg hn]; exact hn'.out, ho, hs', hb, hkp⟩
set_option maxRecDepth 8000 in
theorem open9_c (b : Nat) (k : List Int) (h : Bool) (n : Int) (aa : Option Addr) (la ca : Nat) (ad : List Int) (ab : Option Addr) (lb cb : Nat) (box : List Int) (w : World) (hs : Sx w b k h n) (hra : Rd w aa la ca ad) (hrb : Rd w ab lb cb box) (ha : la ≤ 140737488351232) (hm : lb ≤ 140737488351248) :
    Calls Tryd.prog 8 #[.pointer (some ⟨b, 0, none⟩), .slice aa la ca, .slice ab lb cb] w fun e w' => ∃ a m c X E n', e = .returned (.tuple #[.slice a m c, .int .i64 E]) ∧ Hid (X = ox9 k h n ad box) ∧ Hid (E = oe9 k h n ad box) ∧ Hid (n' = on9 k h n ad box) ∧ Hid (Rd w' a m c X) ∧ Hid (Sx w' b k h n') ∧ ExtB b w w' ∧ Kp w w' := by
  cases h with
  | false =>
    refine (open9_none b k n aa la ca ad ab lb cb box w hs hrb hm).mono ?_
    rintro e w' ⟨g, rfl, -, ho, hs', hb⟩
    exact ⟨_, lb, lb, box, 0, n, rfl, rfl, rfl, rfl, ho.out.rd, hs', extb_of hb, Kp.below hb⟩
  | true =>
    by_cases hn : n = 18446744073709551615
    · refine (open9_last b k n aa la ca ad ab lb cb box w hs hn).mono ?_
      rintro e w' ⟨rfl, rfl⟩
      exact ⟨none, 0, 0, [], 9, n, rfl, by unfold Hid ox9; rw [if_pos rfl, if_pos hn], by unfold Hid oe9; rw [if_pos rfl, if_pos hn], by unfold Hid on9; rw [if_pos rfl, if_pos hn], Rd.nil _ _ _ (fun _ => rfl), hs, ExtB.refl _ _, Kp.refl _⟩
    · refine (open9_full b k n aa la ca ad ab lb cb box w hs hn hra hrb ha hm).mono ?_
      rintro e w' ⟨a', m, c', X, E, n', rfl, hE, hX, hn', ho, hs', hb, hkp⟩
      exact ⟨_, m, c', X, E, n', rfl, by unfold Hid ox9; rw [if_pos rfl, if_neg hn]; exact hX.out, by unfold Hid oe9; rw [if_pos rfl, if_neg hn]; exact hE.out, by unfold Hid on9; rw [if_pos rfl, if_neg hn, ← hE.out]; exact hn'.out, ho, hs', hb, hkp⟩
set_option maxRecDepth 8000 in
theorem ropen9_c (b : Nat) (k : List Int) (h : Bool) (n : Int) (aa : Option Addr) (la ca : Nat) (ad : List Int) (ab : Option Addr) (lb cb : Nat) (box : List Int) (w : World) (hs : Cx w b k h n) (hra : Rd w aa la ca ad) (hrb : Rd w ab lb cb box) (hg : Gr w) (hm : la + lb + 46 ≤ 2097152) :
    Calls Tryd.prog 9 #[.pointer (some ⟨b, 0, none⟩), .slice aa la ca, .slice ab lb cb] w fun e w' => ∃ a m c X E n', e = .returned (.tuple #[.slice a m c, .int .i64 E]) ∧ Hid (X = ox9 k h n ad box) ∧ Hid (E = oe9 k h n ad box) ∧ Hid (n' = on9 k h n ad box) ∧ Hid (Rd w' a m c X) ∧ Hid (Cx w' b k h n') ∧ ExtB b w w' ∧ Kp w w' := by
  cases h with
  | false =>
    refine (ropen9_none b k n aa la ca ad ab lb cb box w hs).mono ?_
    rintro e w' ⟨rfl, rfl⟩
    exact ⟨_, lb, cb, box, 0, n, rfl, rfl, rfl, rfl, hrb, hs, ExtB.refl _ _, Kp.refl _⟩
  | true =>
    by_cases hn : n = 18446744073709551615
    · refine (ropen9_last b k n aa la ca ad ab lb cb box w hs hn).mono ?_
      rintro e w' ⟨rfl, rfl⟩
      exact ⟨none, 0, 0, [], 9, n, rfl, by unfold Hid ox9; rw [if_pos rfl, if_pos hn], by unfold Hid oe9; rw [if_pos rfl, if_pos hn], by unfold Hid on9; rw [if_pos rfl, if_pos hn], Rd.nil _ _ _ (fun _ => rfl), hs, ExtB.refl _ _, Kp.refl _⟩
    · refine (ropen9_yes b k n aa la ca ad ab lb cb box w hs hn hra hrb hg hm).mono ?_
      rintro e w' ⟨a', m, c', X, E, n', rfl, hE, hX, hn', ho, hs', hb, hkp⟩
      exact ⟨_, m, c', X, E, n', rfl, by unfold Hid ox9; rw [if_pos rfl, if_neg hn]; exact hX.out, by unfold Hid oe9; rw [if_pos rfl, if_neg hn]; exact hE.out, by unfold Hid on9; rw [if_pos rfl, if_neg hn, ← hE.out]; exact hn'.out, ho, hs', hb, hkp⟩
set_option maxRecDepth 8000 in
theorem rekey9_c (b : Nat) (k : List Int) (h : Bool) (n : Int) (w : World) (hs : Sx w b k h n) :
    Calls Tryd.prog 10 #[.pointer (some ⟨b, 0, none⟩)] w fun e w' => ∃ E K, e = .returned (.int .i64 E) ∧ Hid (E = rk9e h) ∧ Hid (K = rk9k k h) ∧ Hid (Sx w' b K h n) ∧ ExtB b w w' := by
  cases h with
  | false =>
    refine (rekey9_none b k n w hs).mono ?_
    rintro e w' ⟨rfl, rfl⟩
    exact ⟨4, k, rfl, rfl, rfl, hs, ExtB.refl _ _⟩
  | true =>
    refine (rekey9_yes b k n w hs).mono ?_
    rintro e w' ⟨K, rfl, hK, hs', hb⟩
    exact ⟨0, K, rfl, rfl, by unfold Hid rk9k; rw [if_pos rfl]; exact hK.out, hs', hb⟩
set_option maxRecDepth 8000 in
theorem rrekey9_c (b : Nat) (k : List Int) (h : Bool) (n : Int) (w : World) (hs : Cx w b k h n) (hg : Gr w) :
    Calls Tryd.prog 11 #[.pointer (some ⟨b, 0, none⟩)] w fun e w' => ∃ E K, e = .returned (.int .i64 E) ∧ Hid (E = rk9e h) ∧ Hid (K = rk9k k h) ∧ Hid (Cx w' b K h n) ∧ ExtB b w w' := by
  cases h with
  | false =>
    refine (rrekey9_none b k n w hs).mono ?_
    rintro e w' ⟨rfl, rfl⟩
    exact ⟨4, k, rfl, rfl, rfl, hs, ExtB.refl _ _⟩
  | true =>
    refine (rrekey9_yes b k n w hs hg).mono ?_
    rintro e w' ⟨K, rfl, hK, hs', hb⟩
    exact ⟨0, K, rfl, rfl, by unfold Hid rk9k; rw [if_pos rfl]; exact hK.out, hs', hb⟩
end Go.Proofs.YtjmdgmbkkkoamaaDoor
/-
  A slice of law 9's Steps that came in. No statement of the seat is proved here.
-/
namespace Go.Proofs.YtjmdgmbkkkoamaaDoor
open Go.ChangeShapes Go.WideShapes Go.ChangeAt Go.RowKit Go.Deep

set_option maxRecDepth 8000 in
theorem bulk_one {H : Type} (d : DataW H) : 1 ≤ Rows.uptoBulk d := by
  cases d with
  | lit l => cases l <;> simp [Rows.uptoBulk]
  | _ => simp [Rows.uptoBulk]
set_option maxRecDepth 8000 in
theorem bulk_len {H : Type} (l : List (DataW H)) : l.length ≤ Rows.uptoBulkAll l := by
  induction l with
  | nil => simp [Rows.uptoBulkAll]
  | cons x r ih => have := bulk_one x; simp only [Rows.uptoBulkAll, List.length_cons]; omega
set_option maxRecDepth 8000 in
theorem bulk_mem {H : Type} : ∀ {l : List (DataW H)} {d : DataW H}, d ∈ l → Rows.uptoBulk d ≤ Rows.uptoBulkAll l
  | x :: r, d, h => by
    simp only [Rows.uptoBulkAll]
    rcases List.mem_cons.1 h with rfl | h
    · omega
    · have := bulk_mem h; omega
  | [], _, h => by simp at h
set_option maxRecDepth 8000 in
theorem bulk_slice {H : Type} {d : DataW H} {len : Nat} (h : (d = .nil ∧ len = 0) ∨ ∃ e s, d = .slice e s ∧ len ≤ e.length + s.length) : len ≤ Rows.uptoBulk d := by
  rcases h with ⟨_, rfl⟩ | ⟨e, s, rfl, hl⟩
  · omega
  · have q1 := bulk_len e
    have q2 := bulk_len s
    simp only [Rows.uptoBulk]
    omega
set_option maxRecDepth 8000 in
theorem trod_bytes {H : Type} {enc : TypeId × Value → H} {W : World} {base : Nat} {spare : Nat → Bool} {held : Bool} {fuel : Nat} {cs : List Value} {x : DataW H × List MemPlace} (h : DataW.trod enc Tryd.prog W base spare held fuel 31 cs = some x) :
    ∃ a len cap l, cs = [.slice a len cap] ∧ Rd W a len cap l ∧ len ≤ Rows.uptoBulk x.1 := by
  have hs : ∃ a len cap, cs = [.slice a len cap] := by
    rcases open_ints Tryd.underlying31 Tryd.underlying5 cells5 h with ⟨hcs, _⟩ | ⟨x, l, c, _, hcs, _⟩
    · exact ⟨none, 0, 0, hcs⟩
    · exact ⟨some x, l, c, hcs⟩
  obtain ⟨a, len, cap, rfl⟩ := hs
  obtain ⟨l, hl, hd⟩ := open_bytes (enc := enc) (W := W) (base := base) (spare := spare) (held := held) (a := a) (len := len) (cap := cap) (d := x.1) (p := x.2) ⟨fuel, h⟩
  exact ⟨a, len, cap, l, rfl, hl, bulk_slice hd⟩
set_option maxRecDepth 8000 in
theorem trod_arr32 {H : Type} {enc : TypeId × Value → H} {W : World} {base : Nat} {spare : Nat → Bool} {held : Bool} {fuel : Nat} {cs : List Value} {x : DataW H × List MemPlace} (h : DataW.trod enc Tryd.prog W base spare held fuel 27 cs = some x) :
    ∃ l, cs = List.map (Value.int .u8) l ∧ Bn 32 l := by
  obtain ⟨xs, m, _, _, hcl, hxl, hall⟩ := DataW.trod_array Tryd.underlying27 h
  rw [cells32] at hcl
  have key : ∀ i (hi : i < cs.length), ∃ n, cs[i] = .int .u8 n ∧ 0 ≤ n ∧ n ≤ 255 := by
    intro i hi
    have hx := hall i (by omega)
    rw [List.getElem?_eq_getElem (by omega), cells5, Nat.mul_one] at hx
    obtain ⟨n, h1, _, hw⟩ := DataW.trod_int Tryd.underlying5 hx
    have hb := bounds_u8 hw
    refine ⟨n, ?_, hb⟩
    have h2 : ((cs.drop i).take 1)[0]? = some (.int .u8 n) := by rw [h1]; rfl
    rw [List.getElem?_take_of_lt (by decide), List.getElem?_drop, Nat.add_zero, List.getElem?_eq_getElem hi] at h2
    exact Option.some.inj h2
  refine ⟨cs.map intIn, ?_, ?_, ?_⟩
  · apply List.ext_getElem
    · simp
    · intro i h1 h2
      obtain ⟨n, hn, _⟩ := key i h1
      simp [hn, intIn]
  · rw [List.length_map, hcl]
  · intro y hy
    obtain ⟨z, hz, rfl⟩ := List.mem_map.1 hy
    obtain ⟨i, hi, rfl⟩ := List.getElem_of_mem hz
    obtain ⟨n, hn, hb⟩ := key i hi
    rw [hn]
    exact hb
/-- A Step's cells. -/
def xs9 (what nn : Int) (vA vB : Value) (key : List Int) : List Value := .int .i64 what :: .int .u64 nn :: vA :: vB :: List.map (Value.int .u8) key
set_option maxRecDepth 8000 in
theorem xs9_len {what nn : Int} {vA vB : Value} {key : List Int} (hk : key.length = 32) : (xs9 what nn vA vB key).length = 36 := by
  unfold xs9
  simp [hk]
/-- A Step in memory. -/
structure St9 (w : World) (b o : Nat) (what nn : Int) (aA : Option Addr) (lA cA : Nat) (ad : List Int) (aB : Option Addr) (lB cB : Nat) (bt key : List Int) : Prop where
  rng : w.rangeAt b o (xs9 what nn (.slice aA lA cA) (.slice aB lB cB) key)
  ra : Rd w aA lA cA ad
  rb : Rd w aB lB cB bt
  bk : Bn 32 key
  bw : -9223372036854775808 ≤ what ∧ what ≤ 9223372036854775807
  bn : 0 ≤ nn ∧ nn ≤ 18446744073709551615
  le : lA + lB ≤ 1048576
structure RdS (w : World) (a : Option Addr) (len : Nat) : Prop where
  cell : 0 < len → ∃ b off, a = some ⟨b, off, none⟩ ∧ ∀ i, i < len → ∃ what nn aA lA cA ad aB lB cB bt key, St9 w b (off + i * 36) what nn aA lA cA ad aB lB cB bt key
set_option maxRecDepth 8000 in
theorem cells36 : Tryd.prog.cellsOf 33 = 36 := by kernel_rfl
set_option maxRecDepth 8000 in
theorem cellsI9 : Tryd.prog.cellsOf 3 = 1 := by kernel_rfl
set_option maxRecDepth 8000 in
theorem cellsU9 : Tryd.prog.cellsOf 28 = 1 := by kernel_rfl
set_option maxRecDepth 8000 in
theorem cellsS9 : Tryd.prog.cellsOf 31 = 1 := by kernel_rfl
set_option maxRecDepth 8000 in
theorem one_of {α : Type} {l : List α} {i : Nat} {x : α} (h : (l.drop i).take 1 = [x]) : l[i]? = some x := by
  have h2 : ((l.drop i).take 1)[0]? = some x := by rw [h]; rfl
  rwa [List.getElem?_take_of_lt (by decide), List.getElem?_drop, Nat.add_zero] at h2
set_option maxRecDepth 8000 in
theorem open_steps {H : Type} {enc : TypeId × Value → H} {W : World} {base : Nat} {spare : Nat → Bool} {held : Bool} {a : Option Addr} {len cap : Nat} {d : DataW H} {p : List MemPlace} (h : DataW.Trod enc Tryd.prog W base spare held 22 (.slice a len cap) d p) (hbulk : Rows.uptoBulk d ≤ 1048576) :
    RdS W a len := by
  obtain ⟨fuel, hf⟩ := h
  rcases open_slice Tryd.underlying22 hf with ⟨hcs, _⟩ | ⟨x, l, c, m, n, D, Pl, hcs, _, hl, hm, hmm, hx, hall⟩
  · simp [Value.cells] at hcs
    obtain ⟨rfl, rfl, rfl⟩ := hcs
    exact ⟨fun h => by omega⟩
  · simp [Value.cells] at hcs
    obtain ⟨rfl, rfl, rfl⟩ := hcs
    simp only [Prod.mk.injEq] at hx
    have hlm : len ≤ m := by rw [hmm]; split <;> omega
    refine ⟨fun h0 => ?_⟩
    have hspot : x.spot = none := by
      obtain ⟨cs', h1, _⟩ := hall 0 (by omega)
      obtain ⟨_, hl36, hcell⟩ := World.cells?_some h1
      rw [cells36] at hl36 hcell
      have hc := hcell 0 (by decide)
      rw [List.getElem?_eq_getElem (by omega)] at hc
      simpa [Addr.add] using World.cell?_spot hc
    obtain ⟨b, off, spot⟩ := x
    dsimp only at hspot
    subst hspot
    refine ⟨b, off, rfl, fun i hi => ?_⟩
    obtain ⟨cs', h1, h2⟩ := hall i (by omega)
    obtain ⟨_, hl36, hcell⟩ := World.cells?_some h1
    rw [cells36] at hl36 hcell
    obtain ⟨xs, k, hk, hxy, _, hxl, hfd⟩ := DataW.trod_struct Tryd.underlying33 h2
    match xs, hxl with
    | [y0, y1, y2, y3, y4], _ =>
      have g0 : DataW.trod enc Tryd.prog W base spare held k 3 ((cs'.drop 0).take (Tryd.prog.cellsOf 3)) = some y0 := hfd 0 _ rfl
      rw [cellsI9] at g0
      have g1 : DataW.trod enc Tryd.prog W base spare held k 28 ((cs'.drop 1).take (Tryd.prog.cellsOf 28)) = some y1 := hfd 1 _ rfl
      rw [cellsU9] at g1
      have g2 : DataW.trod enc Tryd.prog W base spare held k 31 ((cs'.drop 2).take (Tryd.prog.cellsOf 31)) = some y2 := hfd 2 _ rfl
      rw [cellsS9] at g2
      have g3 : DataW.trod enc Tryd.prog W base spare held k 31 ((cs'.drop 3).take (Tryd.prog.cellsOf 31)) = some y3 := hfd 3 _ rfl
      rw [cellsS9] at g3
      have g4 : DataW.trod enc Tryd.prog W base spare held k 27 ((cs'.drop 4).take (Tryd.prog.cellsOf 27)) = some y4 := hfd 4 _ rfl
      rw [cells32] at g4
      obtain ⟨what, e0, _, w0⟩ := DataW.trod_int Tryd.underlying3 g0
      obtain ⟨nn, e1, _, w1⟩ := DataW.trod_int Tryd.underlying28 g1
      obtain ⟨aA, lA, cA, ad, e2, ra, ba⟩ := trod_bytes g2
      obtain ⟨aB, lB, cB, bt, e3, rb, bb⟩ := trod_bytes g3
      obtain ⟨key, e4, hkey⟩ := trod_arr32 g4
      have hD : D i = .agg [y0.1, y1.1, y2.1, y3.1, y4.1] := by
        simp only [Prod.mk.injEq] at hxy
        simpa using hxy.1
      have hle : Rows.uptoBulk (D i) ≤ 1048576 := by
        refine Nat.le_trans ?_ hbulk
        rw [hx.1]
        simp only [Rows.uptoBulk]
        have := bulk_mem (List.mem_map.2 ⟨i, List.mem_range.2 hi, rfl⟩ : D i ∈ (List.range len).map D)
        omega
      rw [hD] at hle
      simp only [Rows.uptoBulk, Rows.uptoBulkAll] at hle
      have hcs' : cs' = xs9 what nn (.slice aA lA cA) (.slice aB lB cB) key := by
        apply List.ext_getElem?
        intro j
        by_cases hj : j < 36
        · match j, hj with
          | 0, _ => rw [one_of e0]; rfl
          | 1, _ => rw [one_of e1]; rfl
          | 2, _ => rw [one_of e2]; rfl
          | 3, _ => rw [one_of e3]; rfl
          | j + 4, hj =>
            have : ((cs'.drop 4).take 32)[j]? = (List.map (Value.int .u8) key)[j]? := by rw [e4]
            rw [List.getElem?_take_of_lt (by omega), List.getElem?_drop, Nat.add_comm] at this
            rw [this]
            rfl
        · rw [List.getElem?_eq_none (by omega), List.getElem?_eq_none (by rw [xs9_len hkey.len]; omega)]
      refine ⟨what, nn, aA, lA, cA, ad, aB, lB, cB, bt, key, ⟨fun j v hv => ?_, ra, rb, hkey, bounds_i64 w0, by have := bounds_u64 w1; omega, by omega⟩⟩
      have hj : j < 36 := by
        have := (List.getElem?_eq_some_iff.1 hv).1
        rwa [xs9_len hkey.len] at this
      rw [← hcs', ← hcell j hj] at hv
      rw [← hv, add_add]
      congr 1
      rw [Go.WideShapes.add_plain, Nat.add_assoc]
end Go.Proofs.YtjmdgmbkkkoamaaDoor
