/-
  Several texts of one's own, laid together. No statement of the seat is proved here.
-/
import Derived.Test.YtmibjgkakolhiaaDoorPk25
import Derived.Test.YtmibjgkakolhiaaDoorPk30
import Derived.Test.YtmibjgkakolhiaaDoorOJoin
import Derived.Test.YtmibjgkakolhiaaDoorPk3
/-
  What aead's functions come to, on lists of bytes. No statement of the seat is proved here.
-/
namespace Go.Proofs.YtmibjgkakolhiaaDoor
open Go.RowKit

/-- How many bytes 0 fill up blocks of sixteen. -/
def fl6 (n : Nat) : Nat := (16 - n % 16) % 16
set_option maxRecDepth 8000 in
theorem fl6_lt (n : Nat) : fl6 n < 16 := Nat.mod_lt _ (by decide)
/-- The nonce of a number. -/
def nn6 (m : Int) : List Int := List.replicate 4 0 ++ lay 8 m
set_option maxRecDepth 8000 in
theorem nn6_bn (m : Int) : Bn 12 (nn6 m) := ⟨by unfold nn6; rw [List.length_append, List.length_replicate, lay_length], (byt_zero 4).app (lay_byt 8 m)⟩
/-- The tag's key. -/
def ot6 (k n : List Int) : List Int := (blk k 0 n).take 32
set_option maxRecDepth 8000 in
theorem ot6_bn (k n : List Int) : Bn 32 (ot6 k n) := ⟨by unfold ot6; rw [List.length_take, (blk_bn _ _ _).len]; decide, (blk_bn _ _ _).byt.take 32⟩
/-- The tag's text. -/
def ml6 (x y : List Int) : List (List Int) := [x, List.replicate (fl6 x.length) 0, y, List.replicate (fl6 y.length) 0, lay 8 x.length, lay 8 y.length]
def mt6 (x y : List Int) : List Int := (ml6 x y).flatten
set_option maxRecDepth 8000 in
theorem mt6_len (x y : List Int) : (mt6 x y).length = x.length + fl6 x.length + y.length + fl6 y.length + 16 := by
  unfold mt6 ml6
  simp only [List.flatten_cons, List.flatten_nil, List.length_append, List.length_replicate, lay_length, List.length_nil]
  omega
set_option maxRecDepth 8000 in
theorem mt6_byt {x y : List Int} (hx : Byt x) (hy : Byt y) : Byt (mt6 x y) := by
  unfold mt6 ml6
  simp only [List.flatten_cons, List.flatten_nil]
  exact hx.app ((byt_zero _).app (hy.app ((byt_zero _).app ((lay_byt _ _).app ((lay_byt _ _).app Byt.nil)))))
set_option maxRecDepth 8000 in
theorem tg_bn (k t : List Int) : Bn 16 (tg k t) := ⟨lay_length _ _, lay_byt _ _⟩
def tt6 (k n x y : List Int) : List Int := tg (ot6 k n) (mt6 x y)
set_option maxRecDepth 8000 in
theorem tt6_bn (k n x y : List Int) : Bn 16 (tt6 k n x y) := tg_bn _ _
/-- The box. -/
def se6 (k n x t : List Int) : List Int := ap k 1 n t ++ tt6 k n x (ap k 1 n t)
set_option maxRecDepth 8000 in
theorem se6_len (k n x t : List Int) : (se6 k n x t).length = t.length + 16 := by
  unfold se6
  rw [List.length_append, ap_len, (tt6_bn _ _ _ _).len]
set_option maxRecDepth 8000 in
theorem se6_byt (k n x : List Int) {t : List Int} (h : Byt t) : Byt (se6 k n x t) := (ap_byt _ _ _ h).app (tt6_bn _ _ _ _).byt
/-- How a box is opened, and to what. -/
def er6 (k n x b : List Int) : Int := if b.length < 16 then 7 else if tt6 k n x (b.take (b.length - 16)) = b.drop (b.length - 16) then 0 else 8
def op6 (k n x b : List Int) : List Int := if er6 k n x b = 0 then ap k 1 n (b.take (b.length - 16)) else []
set_option maxRecDepth 8000 in
theorem se6_body (k n x t : List Int) : (se6 k n x t).take ((se6 k n x t).length - 16) = ap k 1 n t := by
  rw [se6_len, Nat.add_sub_cancel]
  unfold se6
  rw [List.take_append_of_le_length (by rw [ap_len]; omega), List.take_of_length_le (by rw [ap_len]; omega)]
set_option maxRecDepth 8000 in
theorem se6_tag (k n x t : List Int) : (se6 k n x t).drop ((se6 k n x t).length - 16) = tt6 k n x (ap k 1 n t) := by
  rw [se6_len, Nat.add_sub_cancel]
  unfold se6
  rw [List.drop_append_of_le_length (by rw [ap_len]; omega), List.drop_eq_nil_of_le (by rw [ap_len]; omega), List.nil_append]
set_option maxRecDepth 8000 in
theorem er6_back (k n x t : List Int) : er6 k n x (se6 k n x t) = 0 := by
  unfold er6
  rw [if_neg (by rw [se6_len]; omega), se6_body, se6_tag, if_pos rfl]
set_option maxRecDepth 8000 in
theorem op6_back (k n x : List Int) {t : List Int} (h : Byt t) : op6 k n x (se6 k n x t) = t := by
  unfold op6
  rw [if_pos (er6_back k n x t), se6_body, ap_back _ _ _ h]
set_option maxRecDepth 8000 in
/-- A byte of the tag turned. -/
theorem er6_turn (k n x t : List Int) (i : Nat) (hi : i < 16) (v u : Int) (hv : (se6 k n x t)[t.length + i]? = some v) (hne : v ≠ u) : er6 k n x ((se6 k n x t).set (t.length + i) u) = 8 := by
  unfold er6
  rw [List.length_set, if_neg (by rw [se6_len]; omega)]
  have e1 : ((se6 k n x t).set (t.length + i) u).take ((se6 k n x t).length - 16) = ap k 1 n t := by
    rw [List.take_set_of_le (by rw [se6_len]; omega), se6_body]
  rw [e1, if_neg]
  intro h
  have e2 : ((se6 k n x t).set (t.length + i) u).drop ((se6 k n x t).length - 16) = (tt6 k n x (ap k 1 n t)).set i u := by
    rw [List.drop_set, if_neg (by rw [se6_len]; omega), se6_tag, se6_len]
    congr 1
    omega
  rw [e2] at h
  have hv' : (tt6 k n x (ap k 1 n t))[i]? = some v := by
    rw [← hv]
    unfold se6
    rw [List.getElem?_append_right (by rw [ap_len]; omega), ap_len]
    congr 1
    omega
  have h3 : (tt6 k n x (ap k 1 n t))[i]? = ((tt6 k n x (ap k 1 n t)).set i u)[i]? := congrArg (fun l => l[i]?) h
  rw [hv', List.getElem?_set_self (by rw [(tt6_bn _ _ _ _).len]; exact hi)] at h3
  exact hne (Option.some.inj h3)
set_option maxRecDepth 8000 in
theorem op6_not (k n x b : List Int) (h : er6 k n x b ≠ 0) : op6 k n x b = [] := by
  unfold op6
  rw [if_neg h]

/-! ### Rows of slices -/
set_option maxRecDepth 8000 in
theorem RdL.four (w : World) (a : Option Addr) (n c : Nat) (l : List Int) (a' : Option Addr) (n' c' : Nat) (l' : List Int) (a2 : Option Addr) (n2 c2 : Nat) (l2 : List Int) (a3 : Option Addr) (n3 c3 : Nat) (l3 : List Int) (t : TypeId) (h : Rd w a n c l) (h' : Rd w a' n' c' l') (h2 : Rd w a2 n2 c2 l2) (h3 : Rd w a3 n3 c3 l3) : RdL (w.alloc (.cells #[.slice a n c, .slice a' n' c', .slice a2 n2 c2, .slice a3 n3 c3] t)) (some ⟨w.heap.size, 0, none⟩) 4 [l, l', l2, l3] :=
  ⟨rfl, fun _ => ⟨w.heap.size, 0, rfl, fun i hi => by
    match i, hi with
    | 0, _ => exact ⟨a, n, c, by rw [cell_of_row _ _ _ _ _ _ (heap_alloc_new w _)]; rfl, h.alloc _⟩
    | 1, _ => exact ⟨a', n', c', by rw [cell_of_row _ _ _ _ _ _ (heap_alloc_new w _)]; rfl, h'.alloc _⟩
    | 2, _ => exact ⟨a2, n2, c2, by rw [cell_of_row _ _ _ _ _ _ (heap_alloc_new w _)]; rfl, h2.alloc _⟩
    | 3, _ => exact ⟨a3, n3, c3, by rw [cell_of_row _ _ _ _ _ _ (heap_alloc_new w _)]; rfl, h3.alloc _⟩⟩⟩
set_option maxRecDepth 8000 in
theorem RdL.six (w : World) (a : Option Addr) (n c : Nat) (l : List Int) (a' : Option Addr) (n' c' : Nat) (l' : List Int) (a2 : Option Addr) (n2 c2 : Nat) (l2 : List Int) (a3 : Option Addr) (n3 c3 : Nat) (l3 : List Int) (a4 : Option Addr) (n4 c4 : Nat) (l4 : List Int) (a5 : Option Addr) (n5 c5 : Nat) (l5 : List Int) (t : TypeId) (h : Rd w a n c l) (h' : Rd w a' n' c' l') (h2 : Rd w a2 n2 c2 l2) (h3 : Rd w a3 n3 c3 l3) (h4 : Rd w a4 n4 c4 l4) (h5 : Rd w a5 n5 c5 l5) : RdL (w.alloc (.cells #[.slice a n c, .slice a' n' c', .slice a2 n2 c2, .slice a3 n3 c3, .slice a4 n4 c4, .slice a5 n5 c5] t)) (some ⟨w.heap.size, 0, none⟩) 6 [l, l', l2, l3, l4, l5] :=
  ⟨rfl, fun _ => ⟨w.heap.size, 0, rfl, fun i hi => by
    match i, hi with
    | 0, _ => exact ⟨a, n, c, by rw [cell_of_row _ _ _ _ _ _ (heap_alloc_new w _)]; rfl, h.alloc _⟩
    | 1, _ => exact ⟨a', n', c', by rw [cell_of_row _ _ _ _ _ _ (heap_alloc_new w _)]; rfl, h'.alloc _⟩
    | 2, _ => exact ⟨a2, n2, c2, by rw [cell_of_row _ _ _ _ _ _ (heap_alloc_new w _)]; rfl, h2.alloc _⟩
    | 3, _ => exact ⟨a3, n3, c3, by rw [cell_of_row _ _ _ _ _ _ (heap_alloc_new w _)]; rfl, h3.alloc _⟩
    | 4, _ => exact ⟨a4, n4, c4, by rw [cell_of_row _ _ _ _ _ _ (heap_alloc_new w _)]; rfl, h4.alloc _⟩
    | 5, _ => exact ⟨a5, n5, c5, by rw [cell_of_row _ _ _ _ _ _ (heap_alloc_new w _)]; rfl, h5.alloc _⟩⟩⟩
set_option maxRecDepth 8000 in
theorem join_l (a : Option Addr) (len cap : Nat) (L : List (List Int)) (w : World) (h : RdL w a len L) (hlen : len ≤ 281474976710656) (hT : L.flatten.length ≤ 281474976710656) (hB : Byt L.flatten) :
    Calls Tryd.prog 53 #[.slice a len cap] w fun e w' => ∃ g T X, e = .returned (.slice (some ⟨g, 0, none⟩) T T) ∧ Hid (T = L.flatten.length) ∧ Hid (X = L.flatten) ∧ Hid (Ow w' g T X) ∧ w.heap.size ≤ g ∧ Below w.heap.size w w' := by
  refine (join_any a len cap L w h hlen hT).mono ?_
  rintro e w' ⟨rfl, ho, hb⟩
  exact ⟨_, _, _, rfl, rfl, rfl, ⟨⟨_, ho⟩, hB⟩, Nat.le_refl _, hb⟩
end Go.Proofs.YtmibjgkakolhiaaDoor
/-
  What a State's Seal and Open answer, whatever state it is in: on lists. No statement of the seat is proved here.
-/
namespace Go.Proofs.YtmibjgkakolhiaaDoor
open Go.RowKit

def sx9 (k : List Int) (h : Bool) (n : Int) (ad t : List Int) : List Int := if h = true then (if n = 18446744073709551615 then [] else se6 k (nn6 n) ad t) else t
def se9 (h : Bool) (n : Int) : Int := if h = true then (if n = 18446744073709551615 then 9 else 0) else 0
def sn9 (h : Bool) (n : Int) : Int := if h = true then (if n = 18446744073709551615 then n else n + 1) else n
def ox9 (k : List Int) (h : Bool) (n : Int) (ad b : List Int) : List Int := if h = true then (if n = 18446744073709551615 then [] else op6 k (nn6 n) ad b) else b
def oe9 (k : List Int) (h : Bool) (n : Int) (ad b : List Int) : Int := if h = true then (if n = 18446744073709551615 then 9 else er6 k (nn6 n) ad b) else 0
def on9 (k : List Int) (h : Bool) (n : Int) (ad b : List Int) : Int := if h = true then (if n = 18446744073709551615 then n else (if er6 k (nn6 n) ad b = 0 then n + 1 else n)) else n
set_option maxRecDepth 8000 in
theorem extb_of {b : Nat} {w w' : World} (h : Below w.heap.size w w') : ExtB b w w' := ⟨h.os, h.tape, h.output, h.size, fun i hi _ => h.block i hi⟩
end Go.Proofs.YtmibjgkakolhiaaDoor
