/-
  Terms as values, with their names and sizes. No statement of the seat is proved here.
-/
import Derived.Lib.ItoaLen
import Derived.Test.YtifcdmiopanedaaDoorTName
import Derived.Test.YtifcdmiopanedaaDoorTAs
namespace Go.Proofs.YtifcdmiopanedaaDoor
open Go.RowKit
set_option linter.unusedVariables false

/-- The value (.iface t v) is a term, its name is l, s terms stand in it. -/
def Tm (t : TypeId) (v : Value) (l : List UInt8) (s : Nat) : Prop := ∀ P : TypeId → Value → List UInt8 → Nat → Prop,
  (P 25 (.agg #[]) [95] 1) →
  (∀ n, -9223372036854775808 ≤ n → n ≤ 9223372036854775807 → P 27 (.agg #[.int .i64 n]) (97 :: Lib.itoa n) 1) →
  (∀ n, -9223372036854775808 ≤ n → n ≤ 9223372036854775807 → P 23 (.agg #[.int .i64 n]) (112 :: Lib.itoa n) 1) →
  (∀ n m, -9223372036854775808 ≤ n → n ≤ 9223372036854775807 → -9223372036854775808 ≤ m → m ≤ 9223372036854775807 → P 58 (.agg #[.int .i64 n, .int .i64 m]) (shN n m) 1) →
  (∀ n tx vx ty vy nx ny sx sy, -9223372036854775808 ≤ n → n ≤ 9223372036854775807 → P tx vx nx sx → P ty vy ny sy → P 33 (.agg #[.int .i64 n, .iface tx vx, .iface ty vy]) (chN n nx ny) (sx + sy + 1)) →
  (∀ tx vx ty vy nx ny sx sy, P tx vx nx sx → P ty vy ny sy → P 39 (.agg #[.iface tx vx, .iface ty vy]) (dgN nx ny) (sx + sy + 1)) →
  (∀ n tx vx ty vy tz vz nx ny nz sx sy sz, -9223372036854775808 ≤ n → n ≤ 9223372036854775807 → P tx vx nx sx → P ty vy ny sy → P tz vz nz sz → P 31 (.agg #[.iface tx vx, .int .i64 n, .iface ty vy, .iface tz vz]) (bxN n nx ny nz) (sx + sy + sz + 1)) →
  P t v l s
theorem Tm.empty : Tm 25 (.agg #[]) [95] 1 := fun _ h0 h1 h2 h3 h4 h5 h6 => h0
theorem Tm.atom (n : Int) (n0 : -9223372036854775808 ≤ n) (n1 : n ≤ 9223372036854775807) : Tm 27 (.agg #[.int .i64 n]) (97 :: Lib.itoa n) 1 := fun _ h0 h1 h2 h3 h4 h5 h6 => h1 n n0 n1
theorem Tm.pub (n : Int) (n0 : -9223372036854775808 ≤ n) (n1 : n ≤ 9223372036854775807) : Tm 23 (.agg #[.int .i64 n]) (112 :: Lib.itoa n) 1 := fun _ h0 h1 h2 h3 h4 h5 h6 => h2 n n0 n1
theorem Tm.shared (n m : Int) (n0 : -9223372036854775808 ≤ n) (n1 : n ≤ 9223372036854775807) (m0 : -9223372036854775808 ≤ m) (m1 : m ≤ 9223372036854775807) : Tm 58 (.agg #[.int .i64 n, .int .i64 m]) (shN n m) 1 := fun _ h0 h1 h2 h3 h4 h5 h6 => h3 n m n0 n1 m0 m1
theorem Tm.chain (n : Int) {tx : TypeId} {vx : Value} {nx : List UInt8} {sx : Nat} {ty : TypeId} {vy : Value} {ny : List UInt8} {sy : Nat} (n0 : -9223372036854775808 ≤ n) (n1 : n ≤ 9223372036854775807) (px : Tm tx vx nx sx) (py : Tm ty vy ny sy) : Tm 33 (.agg #[.int .i64 n, .iface tx vx, .iface ty vy]) (chN n nx ny) (sx + sy + 1) :=
  fun P h0 h1 h2 h3 h4 h5 h6 => h4 n tx vx ty vy nx ny sx sy n0 n1 (px P h0 h1 h2 h3 h4 h5 h6) (py P h0 h1 h2 h3 h4 h5 h6)
theorem Tm.digest {tx : TypeId} {vx : Value} {nx : List UInt8} {sx : Nat} {ty : TypeId} {vy : Value} {ny : List UInt8} {sy : Nat} (px : Tm tx vx nx sx) (py : Tm ty vy ny sy) : Tm 39 (.agg #[.iface tx vx, .iface ty vy]) (dgN nx ny) (sx + sy + 1) :=
  fun P h0 h1 h2 h3 h4 h5 h6 => h5 tx vx ty vy nx ny sx sy (px P h0 h1 h2 h3 h4 h5 h6) (py P h0 h1 h2 h3 h4 h5 h6)
theorem Tm.box (n : Int) {tx : TypeId} {vx : Value} {nx : List UInt8} {sx : Nat} {ty : TypeId} {vy : Value} {ny : List UInt8} {sy : Nat} {tz : TypeId} {vz : Value} {nz : List UInt8} {sz : Nat} (n0 : -9223372036854775808 ≤ n) (n1 : n ≤ 9223372036854775807) (px : Tm tx vx nx sx) (py : Tm ty vy ny sy) (pz : Tm tz vz nz sz) : Tm 31 (.agg #[.iface tx vx, .int .i64 n, .iface ty vy, .iface tz vz]) (bxN n nx ny nz) (sx + sy + sz + 1) :=
  fun P h0 h1 h2 h3 h4 h5 h6 => h6 n tx vx ty vy tz vz nx ny nz sx sy sz n0 n1 (px P h0 h1 h2 h3 h4 h5 h6) (py P h0 h1 h2 h3 h4 h5 h6) (pz P h0 h1 h2 h3 h4 h5 h6)
/-- A term's name is a name. -/
theorem Tm.isName {t : TypeId} {v : Value} {l : List UInt8} {s : Nat} (h : Tm t v l s) : IsName l :=
  h (fun _ _ l _ => IsName l)
    (IsName.empty)
    (fun n _ _ => IsName.atom n)
    (fun n _ _ => IsName.pub n)
    (fun n m _ _ _ _ => IsName.shared n m)
    (fun n tx vx ty vy nx ny sx sy n0 n1 px py => IsName.chain n px py)
    (fun tx vx ty vy nx ny sx sy px py => IsName.digest px py)
    (fun n tx vx ty vy tz vz nx ny nz sx sy sz n0 n1 px py pz => IsName.box n px py pz)
/-- A name is no longer than 64 bytes for each term that stands in it. -/
theorem Tm.len {t : TypeId} {v : Value} {l : List UInt8} {s : Nat} (h : Tm t v l s) : 0 < s ∧ l.length ≤ 64 * s :=
  h (fun _ _ l s => 0 < s ∧ l.length ≤ 64 * s)
    (⟨by decide, by simp⟩)
    (fun n n0 n1 => ⟨by decide, by have := Lib.itoa_length_le n n0 n1; simp; omega⟩)
    (fun n n0 n1 => ⟨by decide, by have := Lib.itoa_length_le n n0 n1; simp; omega⟩)
    (fun n m n0 n1 m0 m1 => ⟨by decide, by have := Lib.itoa_length_le n n0 n1; have := Lib.itoa_length_le m m0 m1; unfold shN; simp; omega⟩)
    (fun n tx vx ty vy nx ny sx sy n0 n1 px py => ⟨by omega, by have := Lib.itoa_length_le n n0 n1; unfold chN; simp; omega⟩)
    (fun tx vx ty vy nx ny sx sy px py => ⟨by omega, by unfold dgN; simp; omega⟩)
    (fun n tx vx ty vy tz vz nx ny nz sx sy sz n0 n1 px py pz => ⟨by omega, by have := Lib.itoa_length_le n n0 n1; unfold bxN; simp; omega⟩)
end Go.Proofs.YtifcdmiopanedaaDoor
