/-
  Plain laws: bytes as lists of numbers, numbers as bytes with the lowest first, what it is for a slice to read as a list of bytes; what octet's Put64 and Get64 do. No statement of the seat is proved here.
-/
import Derived.Test.YtifcdmiopanedaaDoorRows
import Derived.WalkKit
import Derived.WalkSpells
import Derived.WalkLawsBesides
import Derived.Laws.BytesArg
import Derived.LoopN
namespace Go.Proofs.YtifcdmiopanedaaDoor
open Go.RowKit

/-! ### Bytes -/
def Byt (l : List Int) : Prop := ∀ x ∈ l, 0 ≤ x ∧ x ≤ 255
theorem Byt.at {l : List Int} (h : Byt l) (i : Nat) : 0 ≤ l[i]?.getD 0 ∧ l[i]?.getD 0 ≤ 255 := by
  by_cases hi : i < l.length
  · rw [List.getElem?_eq_getElem hi, Option.getD_some]
    exact h _ (List.getElem_mem hi)
  · rw [List.getElem?_eq_none (by omega)]
    simp
theorem Byt.nil : Byt [] := fun _ h => by cases h
theorem Byt.cons {x : Int} {l : List Int} (h0 : 0 ≤ x) (h1 : x ≤ 255) (h : Byt l) : Byt (x :: l) := fun y hy => by
  rcases List.mem_cons.1 hy with rfl | hy
  · exact ⟨h0, h1⟩
  · exact h y hy
theorem Byt.app {a b : List Int} (ha : Byt a) (hb : Byt b) : Byt (a ++ b) := fun y hy => by
  rcases List.mem_append.1 hy with h | h
  · exact ha y h
  · exact hb y h
theorem Byt.drop {l : List Int} (h : Byt l) (n : Nat) : Byt (l.drop n) := fun y hy => h y (List.mem_of_mem_drop hy)
theorem Byt.take {l : List Int} (h : Byt l) (n : Nat) : Byt (l.take n) := fun y hy => h y (List.mem_of_mem_take hy)

/-! ### Numbers as bytes -/
def leN : List Int → Int
  | [] => 0
  | x :: l => x + 256 * leN l
def lay : Nat → Int → List Int
  | 0, _ => []
  | k + 1, n => n % 256 :: lay k (n / 256)
theorem lay_length : ∀ (k : Nat) (n : Int), (lay k n).length = k
  | 0, _ => rfl
  | k + 1, n => by rw [lay, List.length_cons, lay_length k]
theorem lay_byt : ∀ (k : Nat) (n : Int), Byt (lay k n)
  | 0, _ => Byt.nil
  | k + 1, n => by rw [lay]; exact Byt.cons (by omega) (by omega) (lay_byt k _)
theorem leN_lay : ∀ (k : Nat) (n : Int), leN (lay k n) = n % 256 ^ k
  | 0, n => by simp [lay, leN, Int.emod_one]
  | k + 1, n => by
    rw [lay, leN, leN_lay k, Int.pow_succ, Int.mul_comm (256 ^ k) 256]
    have e : n / (256 * 256 ^ k) = n / 256 / 256 ^ k := (Int.ediv_ediv_of_nonneg (by omega)).symm
    rw [Int.emod_def n (256 * 256 ^ k), Int.emod_def (n / 256) (256 ^ k), e, Int.mul_sub, Int.mul_assoc]
    omega
theorem leN_lay4 (n : Int) (h0 : 0 ≤ n) (h1 : n < 4294967296) : leN (lay 4 n) = n := by
  rw [leN_lay]; show n % 4294967296 = n; omega
theorem leN_lay8 (n : Int) (h0 : 0 ≤ n) (h1 : n < 18446744073709551616) : leN (lay 8 n) = n := by
  rw [leN_lay]; show n % 18446744073709551616 = n; omega
theorem leN_lay48 (n : Int) : leN (lay 4 n) = n % 4294967296 := by
  rw [leN_lay]; show n % 4294967296 = _; omega
def got (k : Nat) (l : List Int) : Int := if k ≤ l.length then leN (l.take k) else 0

theorem or_add (a b k : Nat) (h : a < 2 ^ k) : a ||| b * 2 ^ k = a + b * 2 ^ k := by
  have := Nat.shiftLeft_add_eq_or_of_lt h b
  rw [Nat.shiftLeft_eq] at this
  rw [Nat.or_comm, ← this, Nat.add_comm]
theorem or32 (a b : Int) (k : Nat) (P : Int) (hP : P = 2 ^ k) (h0 : 0 ≤ a) (h1 : a < P) (h2 : 0 ≤ b) (h3 : a + b * P < 4294967296) : bits .or .u32 a (b * P) = a + b * P := by
  subst hP
  obtain ⟨A, rfl⟩ := Int.eq_ofNat_of_zero_le h0
  obtain ⟨B, rfl⟩ := Int.eq_ofNat_of_zero_le h2
  have e : ((B : Int) * 2 ^ k) = ((B * 2 ^ k : Nat) : Int) := by simp
  rw [e] at h3 ⊢
  have h1' : A < 2 ^ k := by have : ((2 ^ k : Nat) : Int) = 2 ^ k := by simp
                             omega
  rw [u32_or_nat A _ (by omega) (by omega), or_add A B k h1']
  simp
theorem or64 (a b : Int) (k : Nat) (P : Int) (hP : P = 2 ^ k) (h0 : 0 ≤ a) (h1 : a < P) (h2 : 0 ≤ b) (h3 : a + b * P < 18446744073709551616) : bits .or .u64 a (b * P) = a + b * P := by
  subst hP
  obtain ⟨A, rfl⟩ := Int.eq_ofNat_of_zero_le h0
  obtain ⟨B, rfl⟩ := Int.eq_ofNat_of_zero_le h2
  have e : ((B : Int) * 2 ^ k) = ((B * 2 ^ k : Nat) : Int) := by simp
  rw [e] at h3 ⊢
  have h1' : A < 2 ^ k := by have : ((2 ^ k : Nat) : Int) = 2 ^ k := by simp
                             omega
  rw [u64_or_nat A _ (by omega) (by omega), or_add A B k h1']
  simp

/-! ### A slice that reads as bytes -/
structure Rd (w : World) (a : Option Addr) (len cap : Nat) (l : List Int) : Prop where
  hlen : l.length = len
  hle : len ≤ cap
  hnil : a = none → cap = 0
  byt : Byt l
  cell : 0 < len → ∃ b off, a = some ⟨b, off, none⟩ ∧ ∀ i, i < len → w.cell? ⟨b, off + i, none⟩ = some (.int .u8 (l[i]?.getD 0))
theorem Rd.below {w w' : World} {a : Option Addr} {len cap : Nat} {l : List Int} (h : Rd w a len cap l) (hb : Below w.heap.size w w') : Rd w' a len cap l :=
  ⟨h.hlen, h.hle, h.hnil, h.byt, fun h0 => by
    obtain ⟨b, off, ha, hc⟩ := h.cell h0
    exact ⟨b, off, ha, fun i hi => cell_later hb (hc i hi)⟩⟩
theorem Rd.nil (w : World) (a : Option Addr) (cap : Nat) (h : a = none → cap = 0) : Rd w a 0 cap [] := ⟨rfl, Nat.zero_le _, h, Byt.nil, fun h => by omega⟩
theorem Rd.drew {w : World} {a : Option Addr} {len cap : Nat} {l : List Int} (h : Rd w a len cap l) : Rd w.drew a len cap l := ⟨h.hlen, h.hle, h.hnil, h.byt, h.cell⟩
/-- A literal row, just laid. -/
theorem Rd.laid (w : World) (l : List Int) (hb : Byt l) (t : TypeId) (cap : Nat) (hc : l.length ≤ cap) (cs : Array Value) (hcs : ∀ i, i < l.length → cs[i]? = some (.int .u8 (l[i]?.getD 0))) : Rd (w.alloc (.cells cs t)) (some ⟨w.heap.size, 0, none⟩) l.length cap l :=
  ⟨rfl, hc, (fun h => by cases h), hb, fun _ => ⟨w.heap.size, 0, rfl, fun i hi => by
    rw [Nat.zero_add, cell_of_row _ _ _ _ _ _ (heap_alloc_new w _)]
    exact hcs i hi⟩⟩
theorem Rd.owns {w : World} {base : Nat} {e : TypeId} {a : Option Addr} {n cap : Nat} {l : List Int} (hb : Byt l) (h : w.ownsRow base e 1 (.slice a n cap) n (l.map (Value.int .u8))) : Rd w a n cap l := by
  have hl : l.length = n := by simpa using h.1
  rcases h.2 with ⟨hv, rfl⟩ | ⟨g, cap', cur, hv, hg, hh, hle, _, hs, ht⟩
  · have : l = [] := List.eq_nil_of_length_eq_zero hl
    subst this
    cases hv
    exact Rd.nil _ _ _ (fun _ => rfl)
  · cases hv
    refine ⟨hl, hle, (fun h => by cases h), hb, fun _ => ⟨g, 0, rfl, fun i hi => ?_⟩⟩
    rw [Nat.zero_add, World.ownsRow.cellAt h i (by omega)]
    simp [List.getElem?_eq_getElem (show i < l.length by omega)]
/-- 'string(b)'. -/
theorem Rd.str {P : Program} {w : World} {a : Option Addr} {len cap : Nat} {l : List Int} (h : Rd w a len cap l) (src e dst : TypeId) (hs : P.underlying src = some (.slice e)) (he : P.underlying e = some (.int .u8)) (hd : P.underlying dst = some .string) :
    (convert src dst (.slice a len cap)).run P w = .ok (.string (strOfNums l)) w := by
  by_cases h0 : 0 < len
  · obtain ⟨b, off, rfl, hc⟩ := h.cell h0
    exact run_convert_bytes_arg w src e hs he b off len cap l h.hlen (fun i hi => by rw [List.getD_eq_getElem?_getD]; exact hc i hi) dst hd
  · have h1 : len = 0 := by omega
    subst h1
    have h2 : l = [] := List.eq_nil_of_length_eq_zero h.hlen
    subst h2
    cases a with
    | none => exact run_convert_bytes_nil w src e hs he 0 cap dst hd
    | some x =>
      rw [run_convert_bytes_string w src dst e (some x) 0 cap hs he hd]
      have := run_bytesToString (P := P) w x 0 cap [] (by simp [loadCells, loadCellsFrom, Sem.run_pure])
      rw [this]; rfl
theorem str_inj {a b : List Int} (ha : Byt a) (hb : Byt b) (h : strOfNums a = strOfNums b) : a = b := by
  have h' : (strOfNums a).data.toList = (strOfNums b).data.toList := by rw [h]
  rw [strOfNums_data, strOfNums_data] at h'
  clear h
  induction a generalizing b with
  | nil => cases b with | nil => rfl | cons _ _ => simp at h'
  | cons x a ih =>
    cases b with
    | nil => simp at h'
    | cons y b =>
      simp only [List.map_cons, List.cons.injEq] at h'
      have hx := ha x (by simp)
      have hy := hb y (by simp)
      have e : x.toNat = y.toNat := by
        have := congrArg UInt8.toNat h'.1
        simp only [UInt8.toNat_ofNat'] at this
        omega
      have exy : x = y := by omega
      rw [exy, ih (fun z hz => ha z (by simp [hz])) (fun z hz => hb z (by simp [hz])) h'.2]
theorem str_app (a b : List Int) : strOfNums a ++ strOfNums b = strOfNums (a ++ b) := by
  apply ByteArray.ext
  simp [strOfNums]
theorem owns_shape {w : World} {base : Nat} {e : TypeId} {size : Nat} {v : Value} {n : Nat} {xs : List Value} (h : w.ownsRow base e size v n xs) : ∃ a c, v = .slice a n c := by
  rcases h.2 with ⟨rfl, rfl⟩ | ⟨g, cap, cur, rfl, _⟩
  · exact ⟨none, 0, rfl⟩
  · exact ⟨_, _, rfl⟩
/-- The cells of what is appended. -/
theorem Rd.news {w : World} {x : Addr} {len cap : Nat} {l : List Int} (h : Rd w (some x) len cap l) (k : Nat) : ∀ j u, ((l.take k).map (Value.int .u8))[j]? = some u → w.cell? (x.add j) = some u := by
  intro j u hu
  have hj := (List.getElem?_eq_some_iff.1 hu).1
  simp only [List.length_map, List.length_take] at hj
  have hl := h.hlen
  obtain ⟨b, off, hx, hc⟩ := h.cell (by omega)
  cases hx
  rw [Addr.add_lit, hc j (by omega)]
  rw [List.getElem?_map, List.getElem?_take_of_lt (by omega), List.getElem?_eq_getElem (show j < l.length by omega)] at hu
  rw [List.getElem?_eq_getElem (show j < l.length by omega)]
  exact hu
theorem Rd.alloc {w : World} {a : Option Addr} {len cap : Nat} {l : List Int} (h : Rd w a len cap l) (o : Obj) : Rd (w.alloc o) a len cap l := h.below ((Below.refl _ _).alloc (Nat.le_refl _) o)
theorem Rd.none_len {w : World} {len cap : Nat} {l : List Int} (h : Rd w none len cap l) : len = 0 ∧ cap = 0 ∧ l = [] := by
  have h0 := h.hnil rfl
  have h1 := h.hle
  have h2 := h.hlen
  exact ⟨by omega, h0, List.eq_nil_of_length_eq_zero (by omega)⟩
theorem bytes_oneCell (l : List Int) : ∀ u ∈ l.map (Value.int .u8), u.oneCell' = true := ints_oneCell _ _
theorem lay8_eq (n : Int) (h0 : 0 ≤ n) (h1 : n < 18446744073709551616) : lay 8 n = [n % 256, n / 256 % 256, n / 65536 % 256, n / 16777216 % 256, n / 4294967296 % 256, n / 1099511627776 % 256, n / 281474976710656 % 256, n / 72057594037927936] := by
  simp only [lay, List.cons.injEq, and_true]
  refine ⟨trivial, trivial, ?_, ?_, ?_, ?_, ?_, ?_⟩ <;> omega

theorem leN_take8 (l : List Int) (h : 8 ≤ l.length) : leN (l.take 8) = l[0]?.getD 0 + l[1]?.getD 0 * 256 + l[2]?.getD 0 * 65536 + l[3]?.getD 0 * 16777216 + l[4]?.getD 0 * 4294967296 + l[5]?.getD 0 * 1099511627776 + l[6]?.getD 0 * 281474976710656 + l[7]?.getD 0 * 72057594037927936 := by
  match l, h with
  | x0 :: x1 :: x2 :: x3 :: x4 :: x5 :: x6 :: x7 :: r, _ => simp [leN]; omega
theorem ors8 (x0 x1 x2 x3 x4 x5 x6 x7 : Int) (b0 : 0 ≤ x0 ∧ x0 ≤ 255) (b1 : 0 ≤ x1 ∧ x1 ≤ 255) (b2 : 0 ≤ x2 ∧ x2 ≤ 255) (b3 : 0 ≤ x3 ∧ x3 ≤ 255) (b4 : 0 ≤ x4 ∧ x4 ≤ 255) (b5 : 0 ≤ x5 ∧ x5 ≤ 255) (b6 : 0 ≤ x6 ∧ x6 ≤ 255) (b7 : 0 ≤ x7 ∧ x7 ≤ 255) :
    bits .or .u64 (bits .or .u64 (bits .or .u64 (bits .or .u64 (bits .or .u64 (bits .or .u64 (bits .or .u64 (bits .or .u64 0 x0) (x1 * 256)) (x2 * 65536)) (x3 * 16777216)) (x4 * 4294967296)) (x5 * 1099511627776)) (x6 * 281474976710656)) (x7 * 72057594037927936) = x0 + x1 * 256 + x2 * 65536 + x3 * 16777216 + x4 * 4294967296 + x5 * 1099511627776 + x6 * 281474976710656 + x7 * 72057594037927936 := by
  have e0 : bits .or .u64 0 x0 = x0 := by have := or64 0 x0 0 1 (by decide) (by omega) (by omega) (by omega) (by omega); simpa using this
  rw [e0, or64 x0 x1 8 256 (by decide) (by omega) (by omega) (by omega) (by omega), or64 _ x2 16 65536 (by decide) (by omega) (by omega) (by omega) (by omega), or64 _ x3 24 16777216 (by decide) (by omega) (by omega) (by omega) (by omega),
    or64 _ x4 32 4294967296 (by decide) (by omega) (by omega) (by omega) (by omega), or64 _ x5 40 1099511627776 (by decide) (by omega) (by omega) (by omega) (by omega), or64 _ x6 48 281474976710656 (by decide) (by omega) (by omega) (by omega) (by omega), or64 _ x7 56 72057594037927936 (by decide) (by omega) (by omega) (by omega) (by omega)]

theorem ret_two {k : IntKind} {a b : Int} {x y : Bool} (h : a = b) (h' : x = y) : Ending.returned (.tuple #[.int k a, .bool x]) = .returned (.tuple #[.int k b, .bool y]) := by rw [h, h']
theorem ret_num {k : IntKind} {a b : Int} (h : a = b) : Ending.returned (.int k a) = .returned (.int k b) := by rw [h]

end Go.Proofs.YtifcdmiopanedaaDoor
