/-
  The walk of FieldSwaps: true for whatever bytes and whatever bit. No statement of the seat is proved here.
-/
import Derived.Test.YtgnfbnjhmiggbaaLSwapE
import Derived.Test.YtgnfbnjhmiggbaaLSwapO
namespace Go.Proofs.Ytgnfbnjhmiggbaa
open Go.RowKit

theorem fieldSwaps_walk (a b : List Int) (n : Int) (ha : By a) (hb : By b) (hn : 0 ≤ n ∧ n ≤ 18446744073709551615) (w : World) :
    Calls Try.prog 4 #[(.agg (List.map (Value.int .u8) a).toArray), (.agg (List.map (Value.int .u8) b).toArray), .int .u64 n] w fun e w' => e = .returned (.bool true) ∧ Below w.heap.size w w' := by
  have hw : Wd n := ⟨hn.1, by omega⟩
  by_cases h : n % 2 = 0
  · exact fieldSwaps_even a b n ha hb hw h w
  · exact fieldSwaps_odd a b n ha hb hw (show n % 2 = 1 by omega) w
end Go.Proofs.Ytgnfbnjhmiggbaa
