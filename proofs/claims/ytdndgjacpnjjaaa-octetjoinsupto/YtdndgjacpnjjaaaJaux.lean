/-
  A few laws on lists, on a row of noughts and on Few: for OctetJoins. No statement of the seat is proved here.
-/
import Derived.Test.YtdndgjacpnjjaaaOwn
namespace Go.Proofs.Ytdndgjacpnjjaaa
open Go.RowKit

theorem xor8_self (x : Int) (hx : 0 ≤ x ∧ x ≤ 255) : bits .xor .u8 x x = 0 := (xor8 x x hx hx).2.2.2 rfl
theorem xorL_self {a : List Int} (ha : Byt a) : xorL a a = List.replicate a.length 0 := by
  induction a with
  | nil => rfl
  | cons x a ih =>
    have e := ih (fun z hz => ha z (List.mem_cons_of_mem _ hz))
    simp only [xorL, List.zipWith_cons_cons, List.length_cons, List.replicate_succ, List.cons.injEq]
    exact ⟨xor8_self x (ha x (by simp)), e⟩
theorem byt_zeros (n : Nat) : Byt (List.replicate n 0) := fun x hx => by
  rw [List.mem_replicate] at hx
  omega
/-- A row of noughts, just made. -/
theorem rd_zeros (w : World) (n : Nat) : Rd (w.alloc (.cells (madeCells #[.int .u8 0] n) 5)) (some ⟨w.heap.size, 0, none⟩) n n (List.replicate n 0) := by
  have h := Rd.laid w (List.replicate n 0) (byt_zeros n) 5 n (by simp) (madeCells #[.int .u8 0] n) (fun i hi => by
    rw [List.length_replicate] at hi
    have e := toList_madeCells_one (.int .u8 0) n
    rw [← Array.getElem?_toList, e]
    simp [hi])
  rwa [List.length_replicate] at h
theorem got_front (n : Int) (F : List Int) (n0 : 0 ≤ n) (n1 : n < 18446744073709551616) : got 8 (lay 8 n ++ F) = n := by
  have hl := lay_length 8 n
  unfold got
  rw [if_pos (by rw [List.length_append, hl]; omega), List.take_append_of_le_length (by omega), List.take_of_length_le (by omega), leN_lay8 n n0 n1]
theorem got_low (n : Int) : got 4 (lay 8 n) = n % 4294967296 := by
  have hl := lay_length 8 n
  unfold got
  rw [if_pos (by omega)]
  have e : (lay 8 n).take 4 = lay 4 n := by simp [lay]
  rw [e, leN_lay48]
theorem few_short (a : Option Addr) (len cap : Nat) (l : List Int) (w : World) (hr : Rd w a len cap l) (hm : len ≤ 140737488351232) (h3 : len < 3) :
    Calls Try.prog 17 #[.slice a len cap, .int .i64 3] w fun e w' => ∃ a' c', e = .returned (.slice a' len c') ∧ Below w.heap.size w w' := by
  refine (few_any a len cap l 3 w hr hm (by omega) (by omega)).mono ?_
  rintro e w' ⟨a', c', rfl, ho, hb⟩
  have e1 : (l.take (3 : Int).toNat).length = len := by rw [List.length_take, hr.hlen]; show min 3 len = len; omega
  rw [e1]
  exact ⟨a', c', rfl, hb⟩
theorem few_long (a : Option Addr) (len cap : Nat) (l : List Int) (w : World) (hr : Rd w a len cap l) (hm : len ≤ 140737488351232) (h3 : 3 ≤ len) :
    Calls Try.prog 17 #[.slice a len cap, .int .i64 3] w fun e w' => ∃ a' c', e = .returned (.slice a' 3 c') ∧ Below w.heap.size w w' := by
  refine (few_any a len cap l 3 w hr hm (by omega) (by omega)).mono ?_
  rintro e w' ⟨a', c', rfl, ho, hb⟩
  have e1 : (l.take (3 : Int).toNat).length = 3 := by rw [List.length_take, hr.hlen]; show min 3 len = 3; omega
  rw [e1]
  exact ⟨a', c', rfl, hb⟩
end Go.Proofs.Ytdndgjacpnjjaaa
