/-
  Several texts of one's own, laid together. No statement of the seat is proved here.
-/
import Derived.Test.YtlnbjehimabaiaaGreatDoorPk9
import Derived.Lib.SlBytesConst
import Derived.Test.YtlnbjehimabaiaaGreatDoorPTag
import Derived.Test.YtlnbjehimabaiaaGreatDoorPk3
/-
 Constant texts and arrays of bytes that are compared. No statement of the seat is proved here.
-/
namespace Go.Proofs.YtlnbjehimabaiaaGreatDoor
open Go.RowKit
set_option maxRecDepth 8000

theorem byt5 (l : List Int) (h : l.all (fun x => decide (0 ≤ x) && decide (x ≤ 255)) = true) : Byt l := by
 intro x hx
 have := List.all_eq_true.1 h x hx
 simp only [Bool.and_eq_true, decide_eq_true_eq] at this
 exact this
theorem rd_mark (w : World) (l : List Int) (hb : Byt l) (t : TypeId) (fz : Nat × Nat) (cap : Nat) (hc : l.length ≤ cap) (cs : Array Value) (hcs : ∀ i, i < l.length → cs[i]? = some (.int .u8 (l[i]?.getD 0))) : Rd (w.alloc (.cells cs t fz)) (some ⟨w.heap.size, 0, none⟩) l.length cap l :=
 ⟨rfl, hc, (fun h => by cases h), hb, fun _ => ⟨w.heap.size, 0, rfl, fun i hi => by
  rw [Nat.zero_add, cell_of_row _ _ _ _ _ _ (heap_alloc_new w _)]
  exact hcs i hi⟩⟩
theorem map_cells (l : List Int) : ∀ i, i < l.length → (List.map (Value.int .u8) l).toArray[i]? = some (.int .u8 (l[i]?.getD 0)) := fun i hi => by simp [List.getElem?_eq_getElem hi]
theorem pbytes_of : ∀ (l : List Int), Byt l → ∃ xs : List UInt8, xs.length = l.length ∧ l.map (Value.int .u8) = xs.map Extern.Stop.cell
 | [], _ => ⟨[], rfl, rfl⟩
 | x :: l, h => by
  obtain ⟨xs, h1, h2⟩ := pbytes_of l (fun y hy => h y (by simp [hy]))
  have hx := h x (by simp)
  have e : ((UInt8.ofNat x.toNat).toNat : Int) = x := by
   rw [UInt8.toNat_ofNat']
   omega
  refine ⟨UInt8.ofNat x.toNat :: xs, by simp [h1], ?_⟩
  rw [List.map_cons, List.map_cons, h2, Extern.Stop.cell]
  congr 2
  exact e.symm
theorem eql32 (a b : List Int) (ha : Bn 32 a) (hab : a = b) (w : World) : Sem.run Tryz.prog (binOp .eql 30 (.agg (List.map (Value.int .u8) a).toArray) (.agg (List.map (Value.int .u8) b).toArray)) w = .ok (.bool true) w := by
 subst hab
 obtain ⟨xs, x1, x2⟩ := pbytes_of a ha.byt
 rw [x2, run_eql_bytes (P := Tryz.prog) w 30 5 32 Tryz.underlying30 Tryz.underlying5 (fun _ => by kernel_rfl) xs xs (x1.trans ha.len) (x1.trans ha.len)]
 simp
theorem neq32 (a b : List Int) (ha : Bn 32 a) (hab : a = b) (w : World) : Sem.run Tryz.prog (binOp .neq 30 (.agg (List.map (Value.int .u8) a).toArray) (.agg (List.map (Value.int .u8) b).toArray)) w = .ok (.bool false) w := by
 subst hab
 obtain ⟨xs, x1, x2⟩ := pbytes_of a ha.byt
 rw [x2, run_neq_struct, run_equalIn_bytes w 9998 30 5 32 Tryz.underlying30 Tryz.underlying5 (fun _ => by kernel_rfl) xs xs (x1.trans ha.len) (x1.trans ha.len)]
 simp [Result.andThen]
end Go.Proofs.YtlnbjehimabaiaaGreatDoor
/-
 Plain laws on tags: what hangs on r and on s. No statement of the seat is proved here.
-/
namespace Go.Proofs.YtlnbjehimabaiaaGreatDoor
open Go.RowKit
set_option maxRecDepth 8000

theorem eql16 (a b : List Int) (ha : Bn 16 a) (hab : a = b) (w : World) : Sem.run Tryz.prog (binOp .eql 122 (.agg (List.map (Value.int .u8) a).toArray) (.agg (List.map (Value.int .u8) b).toArray)) w = .ok (.bool true) w := by
 subst hab
 obtain ⟨xs, x1, x2⟩ := pbytes_of a ha.byt
 rw [x2, run_eql_bytes (P := Tryz.prog) w 122 5 16 Tryz.underlying122 Tryz.underlying5 (fun _ => by kernel_rfl) xs xs (x1.trans ha.len) (x1.trans ha.len)]
 simp
theorem eql12 (a b : List Int) (ha : Bn 12 a) (hab : a = b) (w : World) : Sem.run Tryz.prog (binOp .eql 91 (.agg (List.map (Value.int .u8) a).toArray) (.agg (List.map (Value.int .u8) b).toArray)) w = .ok (.bool true) w := by
 subst hab
 obtain ⟨xs, x1, x2⟩ := pbytes_of a ha.byt
 rw [x2, run_eql_bytes (P := Tryz.prog) w 91 5 12 Tryz.underlying91 Tryz.underlying5 (fun _ => by kernel_rfl) xs xs (x1.trans ha.len) (x1.trans ha.len)]
 simp
theorem lay_cong (X Y : Int) (h : X % 340282366920938463463374607431768211456 = Y % 340282366920938463463374607431768211456) : lay 16 X = lay 16 Y := by
 have e1 := lay_leN (lay 16 X) (lay_byt 16 X)
 have e2 := lay_leN (lay 16 Y) (lay_byt 16 Y)
 rw [lay_length, leN_lay] at e1 e2
 have e : (256 : Int) ^ 16 = 340282366920938463463374607431768211456 := by decide
 rw [e] at e1 e2
 rw [← e1, ← e2, h]
theorem leN_lay16 (X : Int) : leN (lay 16 X) = X % 340282366920938463463374607431768211456 := by
 rw [leN_lay]
 rfl
theorem lay_self (l : List Int) (h : Bn 16 l) : lay 16 (leN l) = l := by
 have := lay_leN l h.byt
 rwa [h.len] at this
/-- Two lists of bytes, added, from the lowest on. -/
def addL : List Int → List Int → Int → List Int
 | x :: xs, y :: ys, c => (c + x + y) % 256 :: addL xs ys ((c + x + y) / 256)
 | _, _, _ => []
theorem addL_lay : ∀ (x y : List Int) (c : Int), x.length = y.length → addL x y c = lay x.length (leN x + leN y + c)
 | [], [], _, _ => rfl
 | x :: xs, y :: ys, c, h => by
  rw [addL, addL_lay xs ys _ (by simpa using h), List.length_cons, lay, leN, leN]
  have e1 : (x + 256 * leN xs + (y + 256 * leN ys) + c) % 256 = (c + x + y) % 256 := by omega
  have e2 : (x + 256 * leN xs + (y + 256 * leN ys) + c) / 256 = leN xs + leN ys + (c + x + y) / 256 := by omega
  rw [e1, e2]
/-- One step of the sum: what is left. -/
theorem addL_drop (x y Z : List Int) (i : Nat) (c : Int) (hx : i < x.length) (hy : i < y.length) (h : addL (x.drop i) (y.drop i) c = Z.drop i) :
  ∃ z, Z[i]? = some z ∧ z = (c + x[i] + y[i]) % 256 ∧ addL (x.drop (i + 1)) (y.drop (i + 1)) ((c + x[i] + y[i]) / 256) = Z.drop (i + 1) := by
 rw [List.drop_eq_getElem_cons hx, List.drop_eq_getElem_cons hy, addL] at h
 have hz : i < Z.length := by
  apply Classical.byContradiction
  intro hn
  have e : Z.drop i = [] := List.drop_eq_nil_of_le (by omega)
  rw [e] at h
  cases h
 rw [List.drop_eq_getElem_cons hz] at h
 simp only [List.cons.injEq] at h
 exact ⟨Z[i], List.getElem?_eq_getElem hz, h.1.symm, h.2⟩
theorem half2_set (Z x : List Int) (i : Nat) (z : Int) (hz : Z[i]? = some z) (hx : i < x.length) : (Z.take i ++ x.drop i).set i z = Z.take (i + 1) ++ x.drop (i + 1) := by
 have hi : i < Z.length := (List.getElem?_eq_some_iff.1 hz).1
 have e1 : (Z.take i).length = i := by rw [List.length_take]; omega
 rw [List.set_append_right _ _ (by omega), e1, Nat.sub_self, List.drop_eq_getElem_cons hx, List.set_cons_zero, List.take_succ_eq_append_getElem hi]
 rw [List.getElem?_eq_getElem hi] at hz
 rw [← Option.some.inj hz, List.append_assoc]
 rfl
theorem half2_at (Z x : List Int) (i : Nat) (hi : i ≤ Z.length) (hx : i < x.length) : (Z.take i ++ x.drop i)[i]? = some x[i] := by
 have e1 : (Z.take i).length = i := by rw [List.length_take]; omega
 rw [List.getElem?_append_right (by omega), e1, Nat.sub_self, List.getElem?_drop, Nat.add_zero, List.getElem?_eq_getElem hx]
theorem bits_zero (m : Int) (h0 : 0 ≤ m) (h1 : m < 18446744073709551616) : bits .and .u64 0 m = 0 := by
 obtain ⟨k, rfl⟩ := Int.eq_ofNat_of_zero_le h0
 have := bits_and_u64_nat 0 k (by decide) (by omega)
 rw [Nat.zero_and] at this
 exact this
/-- r hangs on the key's first sixteen bytes alone. -/
theorem cl5_head (a b c : List Int) (ha : a.length = 16) : cl5 (a ++ b) = cl5 (a ++ c) := by
 unfold cl5
 rw [List.take_append_of_le_length (by omega), List.take_append_of_le_length (by omega), List.drop_append_of_le_length (by omega), List.drop_append_of_le_length (by omega), List.take_append_of_le_length (by rw [List.length_drop]; omega), List.take_append_of_le_length (by rw [List.length_drop]; omega)]
theorem po_zero : ∀ n t, po 0 n 0 t = 0
 | 0, _ => rfl
 | n + 1, t => by
  rw [po]
  split
  ·rfl
  ·rw [Int.mul_zero, Int.zero_emod]
   exact po_zero n _
theorem tg_zero (s text : List Int) (hs : Bn 16 s) : tg (List.replicate 16 0 ++ s) text = s := by
 unfold tg
 have e : cl5 (List.replicate 16 0 ++ s) = 0 := by
  rw [cl5_head _ s (List.replicate 16 0) (by simp)]
  decide +kernel
 rw [e, po_zero, Int.zero_add, List.drop_append_of_le_length (by simp), List.drop_eq_nil_of_le (by simp), List.nil_append, lay_self s hs]
/-- Another s. -/
theorem tg_shift (k m text : List Int) (hk : Bn 32 k) (hm : Bn 16 m) : tg (k.take 16 ++ addL (k.drop 16) m 0) text = addL (tg k text) m 0 := by
 have hl : (k.drop 16).length = 16 := by rw [List.length_drop, hk.len]
 have hl2 : (k.take 16).length = 16 := by rw [List.length_take, hk.len]; rfl
 have hT : (tg k text).length = 16 := by unfold tg; rw [lay_length]
 rw [addL_lay _ _ _ (by rw [hl, hm.len]), addL_lay _ _ _ (by rw [hT, hm.len]), hl, hT]
 have e : cl5 (k.take 16 ++ lay 16 (leN (k.drop 16) + leN m + 0)) = cl5 k := by
  rw [cl5_head _ _ (k.drop 16) hl2, List.take_append_drop]
 unfold tg
 rw [e, leN_lay16, List.drop_append_of_le_length (by omega), List.drop_eq_nil_of_le (by omega), List.nil_append, leN_lay16]
 exact lay_cong _ _ (by omega)
end Go.Proofs.YtlnbjehimabaiaaGreatDoor
/-
 What octet's Same does: for whatever bytes. No statement of the seat is proved here.
-/
namespace Go.Proofs.YtlnbjehimabaiaaGreatDoor
open Go.RowKit
set_option maxRecDepth 8000

theorem or8 (x y : Int) (hx : 0 ≤ x ∧ x ≤ 255) (hy : 0 ≤ y ∧ y ≤ 255) : 0 ≤ bits .or .u8 x y ∧ bits .or .u8 x y ≤ 255 ∧ (bits .or .u8 x y = 0 ↔ x = 0 ∧ y = 0) := by
 rw [u8_or x y (by omega) (by omega) (by omega) (by omega)]
 have h : x.toNat ||| y.toNat < 2 ^ 8 := Nat.or_lt_two_pow (by omega) (by omega)
 refine ⟨by omega, by omega, ?_⟩
 constructor
 ·intro h0
  have h1 : x.toNat ||| y.toNat = 0 := by omega
  have h2 := Nat.or_eq_zero_iff.1 h1
  omega
 ·rintro ⟨rfl, rfl⟩
  simp
/-- One byte more is looked at. -/
theorem same_step {a b : List Int} {k : Nat} (ha : k < a.length) (hb : k < b.length) (p : Int) (hp : p = 0 ↔ a.take k = b.take k) (q : Int) (hq : q = 0 ↔ p = 0 ∧ a[k]?.getD 0 = b[k]?.getD 0) : q = 0 ↔ a.take (k + 1) = b.take (k + 1) := by
 rw [hq, hp, List.take_succ_eq_append_getElem ha, List.take_succ_eq_append_getElem hb, List.getElem?_eq_getElem ha, List.getElem?_eq_getElem hb]
 have e : (a.take k).length = (b.take k).length := by simp; omega
 constructor
 ·rintro ⟨h1, h2⟩
  rw [h1]; simp at h2; rw [h2]
 ·intro h
  have := List.append_inj h e
  exact ⟨this.1, by simpa using this.2⟩
theorem same_end {x y : List Int} {la lb k : Nat} (hx : x.length = la) (hy : y.length = lb) (hk : k = min la lb) {q : Int} (hq : q = 0 ↔ x.take k = y.take k) :
  (q = 0 → ((la : Int) == (lb : Int)) = decide (x = y)) ∧ (¬ q = 0 → false = decide (x = y)) := by
 subst hx hy hk
 by_cases e : x = y
 ·subst e
  simp at hq
  simp [hq]
 ·have e2 : decide (x = y) = false := by simp [e]
  rw [e2]
  refine ⟨fun h => ?_, fun _ => rfl⟩
  have h' := hq.1 h
  rw [beq_eq_false_iff_ne]
  intro hl
  apply e
  have hl' : x.length = y.length := by omega
  rwa [hl', Nat.min_self, ← hl', List.take_length, hl', List.take_length] at h'

set_option maxHeartbeats 1000000 in
theorem same_any (a : Option Addr) (la ca : Nat) (x : List Int) (b : Option Addr) (lb cb : Nat) (y : List Int) (w : World) (ha : Rd w a la ca x) (hb : Rd w b lb cb y) (ma : la ≤ 281474976710656) (mb : lb ≤ 281474976710656) :
  Calls Tryz.prog 87 #[.slice a la ca, .slice b lb cb] w fun e w' => e = .returned (.bool (decide (x = y))) ∧ Below w.heap.size w w' := by
 have HX : Hid (x.length = la) := ha.hlen
 have HY : Hid (y.length = lb) := hb.hlen
 have HA : Hid (Rd w a la ca x) := ha
 have HB : Hid (Rd w b lb cb y) := hb
 clear ha hb
 by_cases h0 : 0 < la ∧ 0 < lb
 ·obtain ⟨ba, oa, rfl, hca⟩ := HA.out.cell h0.1
  obtain ⟨bb, ob, rfl, hcb⟩ := HB.out.cell h0.2
  have HCA : Hid _ := hca
  have HCB : Hid _ := hcb
  clear hca hcb
  by_cases hmin : lb < la
  all_goals
   go_enter Tryz.func87, Tryz.ntmps87
   go_wp2
   go_loopw [5, 12] (fun p i wr => ∃ (k : Nat) (q : Int), k ≤ min la lb ∧ i = .int .i64 k ∧ p = .int .u8 q ∧ 0 ≤ q ∧ q ≤ 255 ∧ Hid (q = 0 ↔ x.take k = y.take k) ∧ Below w.heap.size w wr) (fun _ i _ => min la lb - (intOf i).toNat)
   case atStart => exact ⟨0, 0, Nat.zero_le _, rfl, rfl, by omega, by omega, by simp [Hid], Below.refl _ _⟩
   case round =>
    obtain ⟨k, q, hk, rfl, rfl, hq0, hq1, HQ, hbel⟩ := hrel
    by_cases hlt : k < min la lb
    ·have c1 := cell_later hbel (HCA.out k (by omega))
     have c2 := cell_later hbel (HCB.out k (by omega))
     have b1 := HA.out.byt.at k
     have b2 := HB.out.byt.at k
     have HB' : Hid _ := hbel
     clear hbel
     have g1 : (k : Int) < la := by omega
     have g2 : (k : Int) < lb := by omega
     go_wp2
     go_quiet (fail)
     go_wp2
     have X := xor8 _ _ b1 b2
     have O := or8 q _ ⟨hq0, hq1⟩ ⟨X.1, X.2.1⟩
     go_roundw
     case rel => exact ⟨k + 1, _, by omega, by go_num, rfl, O.1, O.2.1, same_step (by rw [HX.out]; omega) (by rw [HY.out]; omega) q HQ.out _ (by rw [O.2.2, X.2.2]), below_drewN HB'.out _⟩
     case measure => simp [intOf]; omega
    ·have HE : Hid _ := same_end HX.out HY.out (show k = min la lb by omega) HQ.out
     by_cases hq : q = 0
     ·subst hq
      go_wp2
      go_ret
      exact ⟨ret_bool (HE.out.1 (by simp)), hbel⟩
     ·go_wp2
      go_ret
      exact ⟨ret_bool (HE.out.2 hq), hbel⟩
 ·rcases (show la = 0 ∨ lb = 0 by omega) with h | h
  ·subst h
   have HE : Hid _ := same_end HX.out HY.out (show 0 = min 0 lb by omega) (q := 0) (by simp)
   go_enter Tryz.func87, Tryz.ntmps87
   go_wp2
   refine wp_loop_rounds 1 ?_
   rw [rounds_succ]; go_wp2
   go_ret
   exact ⟨ret_bool (HE.out.1 (by simp)), Below.refl _ _⟩
  ·subst h
   have HE : Hid _ := same_end HX.out HY.out (show 0 = min la 0 by omega) (q := 0) (by simp)
   by_cases hl : 0 < la
   ·go_enter Tryz.func87, Tryz.ntmps87
    go_wp2
    refine wp_loop_rounds 1 ?_
    rw [rounds_succ]; go_wp2
    go_ret
    exact ⟨ret_bool (HE.out.1 (by simp)), Below.refl _ _⟩
   ·have h1 : la = 0 := by omega
    subst h1
    go_enter Tryz.func87, Tryz.ntmps87
    go_wp2
    refine wp_loop_rounds 1 ?_
    rw [rounds_succ]; go_wp2
    go_ret
    exact ⟨ret_bool (HE.out.1 (by simp)), Below.refl _ _⟩
end Go.Proofs.YtlnbjehimabaiaaGreatDoor
/-
 Slices of slices of bytes. No statement of the seat is proved here.
-/
namespace Go.Proofs.YtlnbjehimabaiaaGreatDoor
open Go.RowKit
set_option maxRecDepth 8000

/-- The slice (a, len, _) reads in w as the lists L. -/
structure RdL (w : World) (a : Option Addr) (len : Nat) (L : List (List Int)) : Prop where
 hlen : L.length = len
 cell : 0 < len → ∃ b off, a = some ⟨b, off, none⟩ ∧ ∀ i, i < len → ∃ ai ni ci, w.cell? ⟨b, off + i, none⟩ = some (.slice ai ni ci) ∧ Rd w ai ni ci (L[i]?.getD [])
def flen (L : List (List Int)) (k : Nat) : Nat := (L.take k).flatten.length
theorem flen_zero (L : List (List Int)) : flen L 0 = 0 := by simp [flen]
theorem flen_succ (L : List (List Int)) (k : Nat) (h : k < L.length) : flen L (k + 1) = flen L k + (L[k]?.getD []).length := by
 unfold flen
 rw [List.take_succ_eq_append_getElem h, List.flatten_append, List.length_append, List.getElem?_eq_getElem h]
 simp
theorem flat_succ (L : List (List Int)) (k : Nat) (h : k < L.length) : (L.take (k + 1)).flatten = (L.take k).flatten ++ L[k]?.getD [] := by
 rw [List.take_succ_eq_append_getElem h, List.flatten_append, List.getElem?_eq_getElem h]
 simp
theorem flen_all (L : List (List Int)) : flen L L.length = L.flatten.length := by simp [flen]
theorem flen_le (L : List (List Int)) (k : Nat) : flen L k ≤ L.flatten.length := by
 have h : L.flatten = (L.take k).flatten ++ (L.drop k).flatten := by rw [← List.flatten_append, List.take_append_drop]
 unfold flen
 rw [h, List.length_append]
 omega
theorem RdL.below {w w' : World} {a : Option Addr} {len : Nat} {L : List (List Int)} (h : RdL w a len L) (hb : Below w.heap.size w w') : RdL w' a len L := ⟨h.hlen, fun h0 => by
 obtain ⟨b, off, ha, hc⟩ := h.cell h0
 exact ⟨b, off, ha, fun i hi => by
  obtain ⟨ai, ni, ci, h1, h2⟩ := hc i hi
  exact ⟨ai, ni, ci, cell_later hb h1, h2.below hb⟩⟩⟩
theorem RdL.nil (w : World) (a : Option Addr) : RdL w a 0 [] := ⟨rfl, fun h => absurd h (by decide)⟩
theorem RdL.one (w : World) (a : Option Addr) (n c : Nat) (l : List Int) (t : TypeId) (h : Rd w a n c l) : RdL (w.alloc (.cells #[.slice a n c] t)) (some ⟨w.heap.size, 0, none⟩) 1 [l] :=
 ⟨rfl, fun _ => ⟨w.heap.size, 0, rfl, fun i hi => by
  match i, hi with
  | 0, _ => exact ⟨a, n, c, by rw [cell_of_row _ _ _ _ _ _ (heap_alloc_new w _)]; rfl, h.alloc _⟩⟩⟩
theorem RdL.two (w : World) (a : Option Addr) (n c : Nat) (l : List Int) (a' : Option Addr) (n' c' : Nat) (l' : List Int) (t : TypeId) (h : Rd w a n c l) (h' : Rd w a' n' c' l') : RdL (w.alloc (.cells #[.slice a n c, .slice a' n' c'] t)) (some ⟨w.heap.size, 0, none⟩) 2 [l, l'] :=
 ⟨rfl, fun _ => ⟨w.heap.size, 0, rfl, fun i hi => by
  match i, hi with
  | 0, _ => exact ⟨a, n, c, by rw [cell_of_row _ _ _ _ _ _ (heap_alloc_new w _)]; rfl, h.alloc _⟩
  | 1, _ => exact ⟨a', n', c', by rw [cell_of_row _ _ _ _ _ _ (heap_alloc_new w _)]; rfl, h'.alloc _⟩⟩⟩
theorem RdL.three (w : World) (a : Option Addr) (n c : Nat) (l : List Int) (a' : Option Addr) (n' c' : Nat) (l' : List Int) (a2 : Option Addr) (n2 c2 : Nat) (l2 : List Int) (t : TypeId) (h : Rd w a n c l) (h' : Rd w a' n' c' l') (h2 : Rd w a2 n2 c2 l2) : RdL (w.alloc (.cells #[.slice a n c, .slice a' n' c', .slice a2 n2 c2] t)) (some ⟨w.heap.size, 0, none⟩) 3 [l, l', l2] :=
 ⟨rfl, fun _ => ⟨w.heap.size, 0, rfl, fun i hi => by
  match i, hi with
  | 0, _ => exact ⟨a, n, c, by rw [cell_of_row _ _ _ _ _ _ (heap_alloc_new w _)]; rfl, h.alloc _⟩
  | 1, _ => exact ⟨a', n', c', by rw [cell_of_row _ _ _ _ _ _ (heap_alloc_new w _)]; rfl, h'.alloc _⟩
  | 2, _ => exact ⟨a2, n2, c2, by rw [cell_of_row _ _ _ _ _ _ (heap_alloc_new w _)]; rfl, h2.alloc _⟩⟩⟩
end Go.Proofs.YtlnbjehimabaiaaGreatDoor
