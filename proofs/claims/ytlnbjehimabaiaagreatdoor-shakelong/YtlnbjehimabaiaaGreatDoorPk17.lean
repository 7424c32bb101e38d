/-
  Several texts of one's own, laid together. No statement of the seat is proved here.
-/
import Derived.Test.YtlnbjehimabaiaaGreatDoorPk16
import Derived.Test.YtlnbjehimabaiaaGreatDoorPk12
import Derived.Test.YtlnbjehimabaiaaGreatDoorPk3
import Derived.Test.YtlnbjehimabaiaaGreatDoorRows
import Derived.WalkKit
import Derived.WalkSpells
import Derived.WalkLawsBesides
import Derived.Shelf.Spec.BitsCarry
import Derived.Lib.Mul64
import Derived.Laws.Bits64b
import Derived.Laws.BytesArg
import Derived.Laws.Pointers
import Derived.LoopN
/-
 What octet's Join and Clone do: for whatever lists of bytes. No statement of the seat is proved here.
-/
namespace Go.Proofs.YtlnbjehimabaiaaGreatDoor
open Go.RowKit
set_option maxRecDepth 8000

theorem owns_base {w : World} {base base' : Nat} {e : TypeId} {size : Nat} {v : Value} {n : Nat} {xs : List Value} (h : w.ownsRow base e size v n xs) (hb : base' ≤ base) : w.ownsRow base' e size v n xs := by
 refine ⟨h.1, ?_⟩
 rcases h.2 with h2 | ⟨g, cap, cur, hv, hg, r⟩
 ·exact .inl h2
 ·exact .inr ⟨g, cap, cur, hv, Nat.le_trans hb hg, r⟩

theorem gather_step (A B : List Int) (j : Nat) (h : j < B.length) : (A ++ B.take (j + 1)).map (Value.int .u8) = (A ++ B.take j).map (Value.int .u8) ++ [.int .u8 (B[j]?.getD 0)] := by
 rw [List.take_succ_eq_append_getElem h, ← List.append_assoc, List.map_append, List.getElem?_eq_getElem h]
 rfl

set_option maxHeartbeats 1000000 in
theorem join_some (b off len cap : Nat) (L : List (List Int)) (T : Nat) (w : World) (HL : Hid (L.length = len)) (hlen : len ≤ 281474976710656)
  (HC : Hid (∀ i, i < len → ∃ ai ni ci, w.cell? ⟨b, off + i, none⟩ = some (.slice ai ni ci) ∧ Rd w ai ni ci (L[i]?.getD []))) (HT : Hid (L.flatten.length = T)) (hT : T ≤ 281474976710656) :
  Calls Tryz.prog 59 #[.slice (some ⟨b, off, none⟩) len cap] w fun e w' => e = .returned (.slice (some ⟨w.heap.size, 0, none⟩) T T) ∧
   w'.ownsRow w.heap.size 5 1 (.slice (some ⟨w.heap.size, 0, none⟩) T T) T (L.flatten.map (Value.int .u8)) ∧ Below w.heap.size w w' := by
 obtain ⟨i0, hi, hz0, hz1, hz2⟩ := info_parts info5
 go_enter Tryz.func59, Tryz.ntmps59
 go_wp2
 go_loop [3, 13] (fun t i => ∃ k : Nat, k ≤ len ∧ i = .int .i64 k ∧ t = .int .i64 (flen L k)) (fun _ i => len - (intOf i).toNat)
 case atStart => exact ⟨0, Nat.zero_le _, rfl, by rw [flen_zero]; rfl⟩
 case round =>
  obtain ⟨k, hk, rfl, rfl⟩ := hrel
  by_cases hlt : k < len
  ·obtain ⟨ai, ni, ci, c1, hrd⟩ := HC.out k hlt
   have HN : Hid (flen L (k + 1) = flen L k + ni) := by unfold Hid; rw [flen_succ L k (by rw [HL.out]; omega), hrd.hlen]
   have hle : flen L k + ni ≤ T := by have := flen_le L (k + 1); rw [HN.out, HT.out] at this; exact this
   clear hrd
   have g1 : (k : Int) < len := by omega
   go_wp2
   go_round
   case rel => exact ⟨k + 1, by omega, by go_num, by rw [HN.out]; go_num⟩
   case measure => simp [intOf]; omega
  ·have e : k = len := by omega
   subst e
   have HF : Hid (flen L k = T) := by unfold Hid; rw [← HT.out, ← flen_all, HL.out]
   go_wp2_with (at_make; refine wpList_make_own _ rfl _ _ 25 rfl w.heap.size 5 i0 (.int .u8 0) 1 Tryz.underlying25 hi hz0 hz1 _ _ _ T rfl rfl (by rw [HF.out]) (by rw [hz2]; omega) (by unfold maxLen; omega) (Nat.le_refl _) ?_)
   intro w0 hown0 hgrow0
   have HO : Hid (w0.ownsRow w.heap.size 5 1 (.slice (some ⟨w.heap.size, 0, none⟩) 0 T) 0 (([] : List Int).map (Value.int .u8))) := hown0
   have HB : Hid (Below w.heap.size w w0) := (Below.refl _ _).grown hgrow0 (Nat.le_refl _) (fun k h => by cases h)
   clear hown0 hgrow0
   go_wp2
   go_loopw [6, 26] (fun v i wr => ∃ k' n : Nat, k' ≤ k ∧ i = .int .i64 k' ∧ Hid (n = flen L k') ∧ v = .slice (some ⟨w.heap.size, 0, none⟩) n T ∧ Hid (wr.ownsRow w.heap.size 5 1 (.slice (some ⟨w.heap.size, 0, none⟩) n T) n ((L.take k').flatten.map (Value.int .u8))) ∧ Hid (Below w.heap.size w wr)) (fun _ i _ => k - (intOf i).toNat)
   case atStart => exact ⟨0, 0, Nat.zero_le _, rfl, by simp [Hid, flen_zero], rfl, by simpa using HO, HB⟩
   case round =>
    obtain ⟨k', n, hk', rfl, HN', rfl, HO', HB'⟩ := hrel
    by_cases hlt' : k' < k
    ·obtain ⟨ai, ni, ci, c1, hrd⟩ := HC.out k' hlt'
     have c1' := cell_later HB'.out c1
     clear c1
     have HR : Hid (Rd w ai ni ci (L[k']?.getD [])) := hrd
     have HS : Hid (flen L (k' + 1) = n + ni) := by unfold Hid; rw [flen_succ L k' (by rw [HL.out]; omega), hrd.hlen, HN'.out]
     have HFS : Hid ((L.take (k' + 1)).flatten = (L.take k').flatten ++ L[k']?.getD []) := flat_succ L k' (by rw [HL.out]; omega)
     have hle : n + ni ≤ T := by have := flen_le L (k' + 1); rw [HS.out, HT.out] at this; exact this
     clear hrd
     have g1 : (k' : Int) < k := by omega
     by_cases hn0 : 0 < ni
     ·obtain ⟨b2, o2, rfl, hc2⟩ := HR.out.cell hn0
      have HC2 : Hid (∀ i, i < ni → w.cell? ⟨b2, o2 + i, none⟩ = some (.int .u8 ((L[k']?.getD [])[i]?.getD 0))) := hc2
      clear hc2
      go_wp2
      go_loopw [6, 32] (fun v i wr2 => ∃ (j : Nat) (xs : List Value), j ≤ ni ∧ i = .int .i64 j ∧ v = .slice (some ⟨w.heap.size, 0, none⟩) (n + j) T ∧ Hid (xs = ((L.take k').flatten ++ (L[k']?.getD []).take j).map (Value.int .u8)) ∧ Hid (wr2.ownsRow w.heap.size 5 1 (.slice (some ⟨w.heap.size, 0, none⟩) (n + j) T) (n + j) xs) ∧ Hid (Below w.heap.size w wr2)) (fun _ i _ => ni - (intOf i).toNat)
      case atStart => exact ⟨0, _, Nat.zero_le _, rfl, rfl, by unfold Hid; rw [List.take_zero, List.append_nil], HO', HB'⟩
      case round =>
       obtain ⟨j, xs, hj, rfl, rfl, HXS, HO2, HB2⟩ := hrel
       by_cases hlt2 : j < ni
       ·have c2 := cell_later HB2.out (HC2.out j hlt2)
        have g2 : (j : Int) < ni := by omega
        have hsz := HB2.out.size
        go_wp2_with (at_builtin; refine wpList_append_fits _ rfl (.tmp 36) (.tmp 38) 25 rfl w.heap.size 5 i0 1 Tryz.underlying25 hi hz1 w.heap.size (n + j) T xs rfl (HO2.out.alloc _) ⟨_, 0, none⟩ 1 1 [.int .u8 ((L[k']?.getD [])[j]?.getD 0)] rfl rfl (cell_laid _ _ _) (bytes_oneCell [_]) (by omega) ?_)
        intro w3 hown3 hgrow3
        have HO3 : Hid (w3.ownsRow w.heap.size 5 1 (.slice (some ⟨w.heap.size, 0, none⟩) (n + (j + 1)) T) (n + (j + 1)) (xs ++ [.int .u8 ((L[k']?.getD [])[j]?.getD 0)])) := hown3
        have HB3 : Hid (Below w.heap.size w w3) := (HB2.out.alloc hsz _).grown hgrow3 (by simp; omega) (fun q hq => by cases hq; exact Nat.le_refl _)
        clear hown3 hgrow3
        go_wp2
        go_roundw
        case rel => exact ⟨j + 1, _, by omega, by go_num, rfl, by
         unfold Hid
         have hjl : j < (L[k']?.getD []).length := by rw [HR.out.hlen]; omega
         rw [HXS.out, gather_step _ _ j hjl], HO3, HB3⟩
        case measure => simp [intOf]; omega
       ·have e : j = ni := by omega
        subst e
        have HX2 : Hid (xs = ((L.take (k' + 1)).flatten).map (Value.int .u8)) := by
         have hfull : (L[k']?.getD []).take j = L[k']?.getD [] := List.take_of_length_le (by rw [HR.out.hlen]; omega)
         unfold Hid
         rw [HXS.out, HFS.out, hfull]
        go_wp2
        go_roundw
        case rel => exact ⟨k' + 1, n + j, by omega, by go_num, by unfold Hid; rw [HS.out], rfl, by unfold Hid; rw [← HX2.out]; exact HO2.out, HB2⟩
        case measure => simp [intOf]; omega
     ·have e : ni = 0 := by omega
      subst e
      have HE : Hid (L[k']?.getD [] = []) := List.eq_nil_of_length_eq_zero HR.out.hlen
      go_wp2
      refine wp_loop_rounds 1 ?_
      rw [rounds_succ]; go_wp2
      go_roundw
      case rel => exact ⟨k' + 1, n, by omega, by go_num, by unfold Hid; rw [HS.out]; rfl, rfl, by unfold Hid; rw [HFS.out, HE.out, List.append_nil]; exact HO'.out, HB'⟩
      case measure => simp [intOf]; omega
    ·have e : k' = k := by omega
     subst e
     have HE : Hid ((L.take k').flatten = L.flatten) := by unfold Hid; rw [← HL.out, List.take_length]
     have HT' : Hid (n = T) := by unfold Hid; rw [HN'.out, HF.out]
     go_wp2
     go_ret
     refine ⟨?_, ?_, HB'.out⟩
     ·rw [← HT'.out]
      rfl
     ·have := HO'.out
      rw [HE.out] at this
      rw [HT'.out] at this
      exact this

set_option maxHeartbeats 1000000 in
theorem join_zero (a : Option Addr) (cap : Nat) (w : World) :
  Calls Tryz.prog 59 #[.slice a 0 cap] w fun e w' => e = .returned (.slice (some ⟨w.heap.size, 0, none⟩) 0 0) ∧
   w'.ownsRow w.heap.size 5 1 (.slice (some ⟨w.heap.size, 0, none⟩) 0 0) 0 [] ∧ Below w.heap.size w w' := by
 obtain ⟨i0, hi, hz0, hz1, hz2⟩ := info_parts info5
 go_enter Tryz.func59, Tryz.ntmps59
 go_wp2
 refine wp_loop_rounds 1 ?_
 rw [rounds_succ]
 go_wp2_with (at_make; refine wpList_make_own _ rfl _ _ 25 rfl w.heap.size 5 i0 (.int .u8 0) 1 Tryz.underlying25 hi hz0 hz1 _ _ _ 0 rfl rfl (by omega) (by rw [hz2]; omega) (by unfold maxLen; omega) (Nat.le_refl _) ?_)
 intro w0 hown0 hgrow0
 have HO : Hid (w0.ownsRow w.heap.size 5 1 (.slice (some ⟨w.heap.size, 0, none⟩) 0 0) 0 []) := hown0
 have HB : Hid (Below w.heap.size w w0) := (Below.refl _ _).grown hgrow0 (Nat.le_refl _) (fun k h => by cases h)
 clear hown0 hgrow0
 go_wp2
 refine wp_loop_rounds 1 ?_
 rw [rounds_succ]; go_wp2
 go_ret
 exact ⟨rfl, HO.out, HB.out⟩

/-- 'Join': all lists, one behind the other, in new memory. -/
theorem join_any (a : Option Addr) (len cap : Nat) (L : List (List Int)) (w : World) (h : RdL w a len L) (hlen : len ≤ 281474976710656) (hT : L.flatten.length ≤ 281474976710656) :
  Calls Tryz.prog 59 #[.slice a len cap] w fun e w' => e = .returned (.slice (some ⟨w.heap.size, 0, none⟩) L.flatten.length L.flatten.length) ∧
   w'.ownsRow w.heap.size 5 1 (.slice (some ⟨w.heap.size, 0, none⟩) L.flatten.length L.flatten.length) L.flatten.length (L.flatten.map (Value.int .u8)) ∧ Below w.heap.size w w' := by
 by_cases h0 : 0 < len
 ·obtain ⟨b, off, rfl, hc⟩ := h.cell h0
  exact join_some b off len cap L L.flatten.length w h.hlen hlen hc rfl hT
 ·have e : len = 0 := by omega
  subst e
  have e2 : L = [] := List.eq_nil_of_length_eq_zero h.hlen
  subst e2
  exact join_zero a cap w
set_option maxHeartbeats 400000 in
/-- 'Clone': the same bytes in new memory. -/
theorem clone_any (a : Option Addr) (len cap : Nat) (l : List Int) (w : World) (h : Rd w a len cap l) (hm : len ≤ 281474976710656) :
  Calls Tryz.prog 54 #[.slice a len cap] w fun e w' => ∃ g, e = .returned (.slice (some ⟨g, 0, none⟩) len len) ∧ w.heap.size ≤ g ∧
   w'.ownsRow w.heap.size 5 1 (.slice (some ⟨g, 0, none⟩) len len) len (l.map (Value.int .u8)) ∧ Below w.heap.size w w' := by
 have HR : Hid (RdL (w.alloc (.cells #[.slice a len cap] 25)) (some ⟨w.heap.size, 0, none⟩) 1 [l]) := RdL.one w a len cap l 25 h
 have HL : Hid (l.length = len) := h.hlen
 clear h
 go_enter Tryz.func54, Tryz.ntmps54
 go_wp2_with fail
 refine (join_any _ _ _ _ _ HR.out (by decide) (by simp [HL.out]; omega)).mono ?_
 rintro e w1 ⟨rfl, ho, hb⟩
 have e1 : (w.alloc (.cells #[.slice a len cap] 25)).heap.size = w.heap.size + 1 := by simp
 have e2 : [l].flatten = l := by simp
 rw [e1, e2, HL.out] at ho
 rw [e1] at hb
 have HO : Hid (w1.ownsRow (w.heap.size + 1) 5 1 (.slice (some ⟨w.heap.size + 1, 0, none⟩) len len) len (l.map (Value.int .u8))) := ho
 have HB : Hid (Below w.heap.size w w1) := ((Below.refl _ _).alloc (Nat.le_refl _) _).trans (hb.mono (by omega))
 have HE : Hid ([l].flatten.length = len) := by unfold Hid; rw [e2, HL.out]
 clear ho hb e1 e2
 go_wp2
 go_ret
 refine ⟨w.heap.size + 1, ?_, by omega, owns_base HO.out (by omega), HB.out⟩
 rw [← HE.out]
 simp
end Go.Proofs.YtlnbjehimabaiaaGreatDoor
/-
 What aead's functions come to, on lists of bytes. No statement of the seat is proved here.
-/
namespace Go.Proofs.YtlnbjehimabaiaaGreatDoor
open Go.RowKit
set_option maxRecDepth 8000

/-- How many bytes 0 fill up blocks of sixteen. -/
def fl6 (n : Nat) : Nat := (16 - n % 16) % 16
theorem fl6_lt (n : Nat) : fl6 n < 16 := Nat.mod_lt _ (by decide)
/-- The nonce of a number. -/
def nn6 (m : Int) : List Int := List.replicate 4 0 ++ lay 8 m
theorem nn6_bn (m : Int) : Bn 12 (nn6 m) := ⟨by unfold nn6; rw [List.length_append, List.length_replicate, lay_length], (byt_zero 4).app (lay_byt 8 m)⟩
/-- The tag's key. -/
def ot6 (k n : List Int) : List Int := (blk k 0 n).take 32
theorem ot6_bn (k n : List Int) : Bn 32 (ot6 k n) := ⟨by unfold ot6; rw [List.length_take, (blk_bn _ _ _).len]; decide, (blk_bn _ _ _).byt.take 32⟩
/-- The tag's text. -/
def ml6 (x y : List Int) : List (List Int) := [x, List.replicate (fl6 x.length) 0, y, List.replicate (fl6 y.length) 0, lay 8 x.length, lay 8 y.length]
def mt6 (x y : List Int) : List Int := (ml6 x y).flatten
theorem mt6_len (x y : List Int) : (mt6 x y).length = x.length + fl6 x.length + y.length + fl6 y.length + 16 := by
 unfold mt6 ml6
 simp only [List.flatten_cons, List.flatten_nil, List.length_append, List.length_replicate, lay_length, List.length_nil]
 omega
theorem mt6_byt {x y : List Int} (hx : Byt x) (hy : Byt y) : Byt (mt6 x y) := by
 unfold mt6 ml6
 simp only [List.flatten_cons, List.flatten_nil]
 exact hx.app ((byt_zero _).app (hy.app ((byt_zero _).app ((lay_byt _ _).app ((lay_byt _ _).app Byt.nil)))))
theorem tg_bn (k t : List Int) : Bn 16 (tg k t) := ⟨lay_length _ _, lay_byt _ _⟩
def tt6 (k n x y : List Int) : List Int := tg (ot6 k n) (mt6 x y)
theorem tt6_bn (k n x y : List Int) : Bn 16 (tt6 k n x y) := tg_bn _ _
/-- The box. -/
def se6 (k n x t : List Int) : List Int := ap k 1 n t ++ tt6 k n x (ap k 1 n t)
theorem se6_len (k n x t : List Int) : (se6 k n x t).length = t.length + 16 := by
 unfold se6
 rw [List.length_append, ap_len, (tt6_bn _ _ _ _).len]
theorem se6_byt (k n x : List Int) {t : List Int} (h : Byt t) : Byt (se6 k n x t) := (ap_byt _ _ _ h).app (tt6_bn _ _ _ _).byt
/-- How a box is opened, and to what. -/
def er6 (k n x b : List Int) : Int := if b.length < 16 then 7 else if tt6 k n x (b.take (b.length - 16)) = b.drop (b.length - 16) then 0 else 8
def op6 (k n x b : List Int) : List Int := if er6 k n x b = 0 then ap k 1 n (b.take (b.length - 16)) else []
theorem se6_body (k n x t : List Int) : (se6 k n x t).take ((se6 k n x t).length - 16) = ap k 1 n t := by
 rw [se6_len, Nat.add_sub_cancel]
 unfold se6
 rw [List.take_append_of_le_length (by rw [ap_len]; omega), List.take_of_length_le (by rw [ap_len]; omega)]
theorem se6_tag (k n x t : List Int) : (se6 k n x t).drop ((se6 k n x t).length - 16) = tt6 k n x (ap k 1 n t) := by
 rw [se6_len, Nat.add_sub_cancel]
 unfold se6
 rw [List.drop_append_of_le_length (by rw [ap_len]; omega), List.drop_eq_nil_of_le (by rw [ap_len]; omega), List.nil_append]
theorem er6_back (k n x t : List Int) : er6 k n x (se6 k n x t) = 0 := by
 unfold er6
 rw [if_neg (by rw [se6_len]; omega), se6_body, se6_tag, if_pos rfl]
theorem op6_back (k n x : List Int) {t : List Int} (h : Byt t) : op6 k n x (se6 k n x t) = t := by
 unfold op6
 rw [if_pos (er6_back k n x t), se6_body, ap_back _ _ _ h]
/-- A byte of the tag turned. -/
theorem er6_turn (k n x t : List Int) (i : Nat) (hi : i < 16) (v u : Int) (hv : (se6 k n x t)[t.length + i]? = some v) (hne : v ≠ u) : er6 k n x ((se6 k n x t).set (t.length + i) u) = 8 := by
 unfold er6
 rw [List.length_set, if_neg (by rw [se6_len]; omega)]
 have e1 : ((se6 k n x t).set (t.length + i) u).take ((se6 k n x t).length - 16) = ap k 1 n t := by
  rw [List.take_set_of_le (by rw [se6_len]; omega), se6_body]
 rw [e1, if_neg]
 intro h
 have e2 : ((se6 k n x t).set (t.length + i) u).drop ((se6 k n x t).length - 16) = (tt6 k n x (ap k 1 n t)).set i u := by
  rw [List.drop_set, if_neg (by rw [se6_len]; omega), se6_tag, se6_len]
  congr 1
  omega
 rw [e2] at h
 have hv' : (tt6 k n x (ap k 1 n t))[i]? = some v := by
  rw [← hv]
  unfold se6
  rw [List.getElem?_append_right (by rw [ap_len]; omega), ap_len]
  congr 1
  omega
 have h3 : (tt6 k n x (ap k 1 n t))[i]? = ((tt6 k n x (ap k 1 n t)).set i u)[i]? := congrArg (fun l => l[i]?) h
 rw [hv', List.getElem?_set_self (by rw [(tt6_bn _ _ _ _).len]; exact hi)] at h3
 exact hne (Option.some.inj h3)
theorem op6_not (k n x b : List Int) (h : er6 k n x b ≠ 0) : op6 k n x b = [] := by
 unfold op6
 rw [if_neg h]

/-! ### Rows of slices -/
theorem RdL.four (w : World) (a : Option Addr) (n c : Nat) (l : List Int) (a' : Option Addr) (n' c' : Nat) (l' : List Int) (a2 : Option Addr) (n2 c2 : Nat) (l2 : List Int) (a3 : Option Addr) (n3 c3 : Nat) (l3 : List Int) (t : TypeId) (h : Rd w a n c l) (h' : Rd w a' n' c' l') (h2 : Rd w a2 n2 c2 l2) (h3 : Rd w a3 n3 c3 l3) : RdL (w.alloc (.cells #[.slice a n c, .slice a' n' c', .slice a2 n2 c2, .slice a3 n3 c3] t)) (some ⟨w.heap.size, 0, none⟩) 4 [l, l', l2, l3] :=
 ⟨rfl, fun _ => ⟨w.heap.size, 0, rfl, fun i hi => by
  match i, hi with
  | 0, _ => exact ⟨a, n, c, by rw [cell_of_row _ _ _ _ _ _ (heap_alloc_new w _)]; rfl, h.alloc _⟩
  | 1, _ => exact ⟨a', n', c', by rw [cell_of_row _ _ _ _ _ _ (heap_alloc_new w _)]; rfl, h'.alloc _⟩
  | 2, _ => exact ⟨a2, n2, c2, by rw [cell_of_row _ _ _ _ _ _ (heap_alloc_new w _)]; rfl, h2.alloc _⟩
  | 3, _ => exact ⟨a3, n3, c3, by rw [cell_of_row _ _ _ _ _ _ (heap_alloc_new w _)]; rfl, h3.alloc _⟩⟩⟩
theorem RdL.six (w : World) (a : Option Addr) (n c : Nat) (l : List Int) (a' : Option Addr) (n' c' : Nat) (l' : List Int) (a2 : Option Addr) (n2 c2 : Nat) (l2 : List Int) (a3 : Option Addr) (n3 c3 : Nat) (l3 : List Int) (a4 : Option Addr) (n4 c4 : Nat) (l4 : List Int) (a5 : Option Addr) (n5 c5 : Nat) (l5 : List Int) (t : TypeId) (h : Rd w a n c l) (h' : Rd w a' n' c' l') (h2 : Rd w a2 n2 c2 l2) (h3 : Rd w a3 n3 c3 l3) (h4 : Rd w a4 n4 c4 l4) (h5 : Rd w a5 n5 c5 l5) : RdL (w.alloc (.cells #[.slice a n c, .slice a' n' c', .slice a2 n2 c2, .slice a3 n3 c3, .slice a4 n4 c4, .slice a5 n5 c5] t)) (some ⟨w.heap.size, 0, none⟩) 6 [l, l', l2, l3, l4, l5] :=
 ⟨rfl, fun _ => ⟨w.heap.size, 0, rfl, fun i hi => by
  match i, hi with
  | 0, _ => exact ⟨a, n, c, by rw [cell_of_row _ _ _ _ _ _ (heap_alloc_new w _)]; rfl, h.alloc _⟩
  | 1, _ => exact ⟨a', n', c', by rw [cell_of_row _ _ _ _ _ _ (heap_alloc_new w _)]; rfl, h'.alloc _⟩
  | 2, _ => exact ⟨a2, n2, c2, by rw [cell_of_row _ _ _ _ _ _ (heap_alloc_new w _)]; rfl, h2.alloc _⟩
  | 3, _ => exact ⟨a3, n3, c3, by rw [cell_of_row _ _ _ _ _ _ (heap_alloc_new w _)]; rfl, h3.alloc _⟩
  | 4, _ => exact ⟨a4, n4, c4, by rw [cell_of_row _ _ _ _ _ _ (heap_alloc_new w _)]; rfl, h4.alloc _⟩
  | 5, _ => exact ⟨a5, n5, c5, by rw [cell_of_row _ _ _ _ _ _ (heap_alloc_new w _)]; rfl, h5.alloc _⟩⟩⟩
theorem join_l (a : Option Addr) (len cap : Nat) (L : List (List Int)) (w : World) (h : RdL w a len L) (hlen : len ≤ 281474976710656) (hT : L.flatten.length ≤ 281474976710656) (hB : Byt L.flatten) :
  Calls Tryz.prog 59 #[.slice a len cap] w fun e w' => ∃ g T X, e = .returned (.slice (some ⟨g, 0, none⟩) T T) ∧ Hid (T = L.flatten.length) ∧ Hid (X = L.flatten) ∧ Hid (Ow w' g T X) ∧ w.heap.size ≤ g ∧ Below w.heap.size w w' := by
 refine (join_any a len cap L w h hlen hT).mono ?_
 rintro e w' ⟨rfl, ho, hb⟩
 exact ⟨_, _, _, rfl, rfl, rfl, ⟨⟨_, ho⟩, hB⟩, Nat.le_refl _, hb⟩
end Go.Proofs.YtlnbjehimabaiaaGreatDoor
/-
 What a State's Seal and Open answer, whatever state it is in: on lists. No statement of the seat is proved here.
-/
namespace Go.Proofs.YtlnbjehimabaiaaGreatDoor
open Go.RowKit

def sx9 (k : List Int) (h : Bool) (n : Int) (ad t : List Int) : List Int := if h = true then (if n = 18446744073709551615 then [] else se6 k (nn6 n) ad t) else t
def se9 (h : Bool) (n : Int) : Int := if h = true then (if n = 18446744073709551615 then 9 else 0) else 0
def sn9 (h : Bool) (n : Int) : Int := if h = true then (if n = 18446744073709551615 then n else n + 1) else n
def ox9 (k : List Int) (h : Bool) (n : Int) (ad b : List Int) : List Int := if h = true then (if n = 18446744073709551615 then [] else op6 k (nn6 n) ad b) else b
def oe9 (k : List Int) (h : Bool) (n : Int) (ad b : List Int) : Int := if h = true then (if n = 18446744073709551615 then 9 else er6 k (nn6 n) ad b) else 0
def on9 (k : List Int) (h : Bool) (n : Int) (ad b : List Int) : Int := if h = true then (if n = 18446744073709551615 then n else (if er6 k (nn6 n) ad b = 0 then n + 1 else n)) else n
end Go.Proofs.YtlnbjehimabaiaaGreatDoor
/-
 What math/bits.Add64, Sub64, Mul64 and field's step do, each for whatever words: plain laws for the statements on field. No statement of the seat is proved here.
-/
namespace Go.Proofs.YtlnbjehimabaiaaGreatDoor.Fc
open Go.RowKit
set_option maxRecDepth 8000

/-- A word of 64 bits. -/
def Wd (x : Int) : Prop := 0 ≤ x ∧ x < 18446744073709551616

theorem add64 (x y c : Int) (hx : 0 ≤ x) (hy : 0 ≤ y) (hc0 : 0 ≤ c) (hc : c ≤ 1) (w : World) : (callFunc 156 #[.int .u64 x, .int .u64 y, .int .u64 c]).run Tryz.prog w =
  .ok (.value (.tuple #[.int .u64 ((x + y + c) % 18446744073709551616), .int .u64 ((x + y + c) / 18446744073709551616)])) w := by
 rw [run_callFunc_extern Tryz.func156 (by kernel_rfl) (by kernel_rfl) (by kernel_rfl) (e := add64Entry) (by kernel_rfl), run_add64 x y c hx hy hc0 hc]
 rfl
theorem add64_0 (x y : Int) (hx : 0 ≤ x) (hy : 0 ≤ y) (w : World) : (callFunc 156 #[.int .u64 x, .int .u64 y, .int .u64 0]).run Tryz.prog w =
  .ok (.value (.tuple #[.int .u64 ((x + y) % 18446744073709551616), .int .u64 ((x + y) / 18446744073709551616)])) w := by
 simpa using add64 x y 0 hx hy (Int.le_refl 0) (by decide) w
/-- The borrow. -/
def bor (x y : Int) : Int := if x < y then 1 else 0
theorem bor_01 (x y : Int) : 0 ≤ bor x y ∧ bor x y ≤ 1 := by unfold bor; split <;> decide
theorem sub64 (x y b : Int) (hx : 0 ≤ x) (hy : 0 ≤ y) (hy' : y < 18446744073709551616) (hb0 : 0 ≤ b) (hb : b ≤ 1) (w : World) : (callFunc 158 #[.int .u64 x, .int .u64 y, .int .u64 b]).run Tryz.prog w =
  .ok (.value (.tuple #[.int .u64 ((x - y - b) % 18446744073709551616), .int .u64 (bor x (y + b))])) w := by
 obtain ⟨x, rfl⟩ := Int.eq_ofNat_of_zero_le hx
 obtain ⟨y, rfl⟩ := Int.eq_ofNat_of_zero_le hy
 obtain ⟨b, rfl⟩ := Int.eq_ofNat_of_zero_le hb0
 have e1 : (((x + 18446744073709551616 - y - b) % 18446744073709551616 : Nat) : Int) = ((x : Int) - y - b) % 18446744073709551616 := by omega
 have e2 : ((if x < y + b then 1 else 0 : Nat) : Int) = bor x (y + b) := by unfold bor; split <;> split <;> omega
 rw [run_callFunc_extern Tryz.func158 (by kernel_rfl) (by kernel_rfl) (by kernel_rfl) (e := sub64Entry) (by kernel_rfl), run_sub64 x y b (by omega), e1, e2]
 rfl
theorem sub64_0 (x y : Int) (hx : 0 ≤ x) (hy : 0 ≤ y) (hy' : y < 18446744073709551616) (w : World) : (callFunc 158 #[.int .u64 x, .int .u64 y, .int .u64 0]).run Tryz.prog w =
  .ok (.value (.tuple #[.int .u64 ((x - y) % 18446744073709551616), .int .u64 (bor x y)])) w := by
 simpa using sub64 x y 0 hx hy hy' (Int.le_refl 0) (by decide) w

/-! ### Products of words -/
theorem maskN (a : Nat) (ha : a < 18446744073709551616) : bits .and .u64 (a : Int) 4294967295 = ((a % 4294967296 : Nat) : Int) := by
 have h := bits_and_u64_nat a 4294967295 ha (by omega)
 have e : a &&& 4294967295 = a % 4294967296 := Nat.and_two_pow_sub_one_eq_mod a 32
 rw [e] at h
 exact h
theorem mask63 (a : Int) (h : Wd a) : bits .and .u64 a 9223372036854775807 = a % 9223372036854775808 := by
 obtain ⟨h0, h1⟩ := h
 obtain ⟨a, rfl⟩ := Int.eq_ofNat_of_zero_le h0
 have h := bits_and_u64_nat a 9223372036854775807 (by omega) (by omega)
 have e : a &&& 9223372036854775807 = a % 9223372036854775808 := Nat.and_two_pow_sub_one_eq_mod a 63
 rw [e] at h
 rw [Int.natCast_emod] at h
 exact h
theorem divN (a : Nat) : (a : Int) / 4294967296 = ((a / 4294967296 : Nat) : Int) := by omega
theorem mulN (a b : Nat) : (a : Int) * (b : Int) = ((a * b : Nat) : Int) := (Int.natCast_mul a b).symm
theorem addN (a b : Nat) : (a : Int) + (b : Int) = ((a + b : Nat) : Int) := (Int.natCast_add a b).symm
theorem wrapN (a : Nat) (ha : a < 18446744073709551616) : IntKind.u64.wrap (a : Int) = (a : Int) := by rw [IntKind.wrap_u64]; omega
theorem wrapM (a : Nat) : IntKind.u64.wrap (a : Int) = ((a % 18446744073709551616 : Nat) : Int) := by rw [IntKind.wrap_u64]; omega

set_option maxHeartbeats 1000000 in
theorem mul64_nat (x y : Nat) (hx : x < 18446744073709551616) (hy : y < 18446744073709551616) (w : World) :
  Calls Tryz.prog 159 #[.int .u64 x, .int .u64 y] w fun e w' => e = .returned (.tuple #[.int .u64 ((x * y / 18446744073709551616 : Nat) : Int), .int .u64 ((x * y % 18446744073709551616 : Nat) : Int)]) ∧ w' = w := by
 obtain ⟨bd, bt, bw, hhi⟩ := Lib.mul64_hi x y hx hy
 have ba := Lib.half_mul_le (a := x / 4294967296) (b := y / 4294967296) (by omega) (by omega)
 have bb := Lib.half_mul_le (a := x / 4294967296) (b := y % 4294967296) (by omega) (by omega)
 have bc := Lib.half_mul_le (a := x % 4294967296) (b := y / 4294967296) (by omega) (by omega)
 have ba' : x / 4294967296 * (y / 4294967296) < 18446744073709551616 := by omega
 have bb' : x / 4294967296 * (y % 4294967296) < 18446744073709551616 := by omega
 have bc' : x % 4294967296 * (y / 4294967296) < 18446744073709551616 := by omega
 have bh1 : x / 4294967296 * (y / 4294967296) + (x / 4294967296 * (y % 4294967296) + x % 4294967296 * (y % 4294967296) / 4294967296) / 4294967296 < 18446744073709551616 := by omega
 have bh : x / 4294967296 * (y / 4294967296) + (x / 4294967296 * (y % 4294967296) + x % 4294967296 * (y % 4294967296) / 4294967296) / 4294967296 + ((x / 4294967296 * (y % 4294967296) + x % 4294967296 * (y % 4294967296) / 4294967296) % 4294967296 + x % 4294967296 * (y / 4294967296)) / 4294967296 < 18446744073709551616 := by omega
 go_enter Tryz.func159, Tryz.ntmps159
 go_wp2
 simp only [maskN x hx, maskN y hy, divN, mulN, addN, wrapN _ bd, wrapN _ bb', wrapN _ bt, maskN _ bt, wrapN _ bc', wrapN _ bw, wrapN _ ba', wrapN _ bh1, wrapN _ bh, wrapM (x * y)]
 rw [hhi]
 go_ret2
 exact ⟨rfl, rfl⟩
theorem mul64_any (x y : Int) (hx : Wd x) (hy : Wd y) (w : World) :
  Calls Tryz.prog 159 #[.int .u64 x, .int .u64 y] w fun e w' => e = .returned (.tuple #[.int .u64 (x * y / 18446744073709551616), .int .u64 (x * y % 18446744073709551616)]) ∧ w' = w := by
 obtain ⟨x0, x1⟩ := hx
 obtain ⟨y0, y1⟩ := hy
 obtain ⟨x, rfl⟩ := Int.eq_ofNat_of_zero_le x0
 obtain ⟨y, rfl⟩ := Int.eq_ofNat_of_zero_le y0
 have h := mul64_nat x y (by omega) (by omega) w
 rw [Int.natCast_ediv, Int.natCast_emod, Int.natCast_mul] at h
 exact h
theorem mul_bound (x y : Int) (hx : Wd x) (hy : Wd y) : 0 ≤ x * y ∧ x * y ≤ 18446744073709551615 * 18446744073709551615 :=
 ⟨Int.mul_nonneg hx.1 hy.1, Int.mul_le_mul (by have := hx.2; omega) (by have := hy.2; omega) hy.1 (by decide)⟩

theorem ret_uu {k k' : IntKind} {a b c d : Int} (h : a = b) (h' : c = d) : Ending.returned (.tuple #[.int k a, .int k' c]) = .returned (.tuple #[.int k b, .int k' d]) := by rw [h, h']

set_option maxHeartbeats 400000 in
/-- field's step: x y + u + v in two words. -/
theorem step_any (x y u v : Int) (hx : Wd x) (hy : Wd y) (hu : Wd u) (hv : Wd v) (w : World) :
  Calls Tryz.prog 136 #[.int .u64 x, .int .u64 y, .int .u64 u, .int .u64 v] w fun e w' => e = .returned (.tuple #[.int .u64 ((x * y + u + v) / 18446744073709551616), .int .u64 ((x * y + u + v) % 18446744073709551616)]) ∧ w' = w := by
 obtain ⟨m0, m1⟩ := mul_bound x y hx hy
 have H := mul64_any x y hx hy w
 obtain ⟨u0, u1⟩ := hu
 obtain ⟨v0, v1⟩ := hv
 clear hx hy
 generalize hm : x * y = m at *
 clear hm
 have a0 : 0 ≤ m % 18446744073709551616 := by omega
 have b0 : 0 ≤ (m + u) % 18446744073709551616 := by omega
 go_enter Tryz.func136, Tryz.ntmps136
 go_wp2_with fail
 refine H.mono ?_
 rintro e w' ⟨rfl, hw⟩
 rw [hw]
 clear hw H w'
 go_wp2_with (first | simp only [add64_0 _ u a0 u0] | simp only [add64_0 _ v b0 v0])
 go_ret2
 exact ⟨ret_uu (by omega) (by omega), rfl⟩
end Go.Proofs.YtlnbjehimabaiaaGreatDoor.Fc
