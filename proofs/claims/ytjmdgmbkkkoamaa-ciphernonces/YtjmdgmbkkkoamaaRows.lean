/-
  No cell of these rows narrows 'for every input' (looked for: loops, veiled, ifaces, maps, wideKeys, modest, calm, conditions, laid).
  DERIVED. THE GIVEN ROWS OF THIS SEAT. 5 by the template 'for every input the law returns true; each argument reads behind the call as it read before'; 0 by the template 'total and deterministic' (their statements: YtjmdgmbkkkoamaaTotals.lean).
  GIVEN WITH THE SEED: the statements are not yours to turn. If you find one false, say at which input.
  Laid BY PROGRAM, IN A SANDBOX (cutbox-rows.mjs): the forced cells as the released guide's own fill.sh prints them over the translation 7883031752c6b5f0… (all of the seat's roots in one cut). By AI agents, Wed Nov 11 2026. No macro, syntax, notation, axiom, sorry.
-/
import Derived.Test.YtjmdgmbkkkoamaaChecked
import GoSem.Claim
import GoSem.ClaimJoined
import GoSem.ClaimMapViews
import Derived.JoinedTies
import Derived.KernelRfl
namespace Go.Proofs.Ytjmdgmbkkkoamaa
/- THE CELL 'sum', in the pinned program and in every row, IS THE sha256 OF THE DUMP (.gsa) THAT YtjmdgmbkkkoamaaProg.lean LOADS. Nothing in Lean hashes anything: it is a label: what it is worth is what the hold of that sum in a sandbox is worth. -/
noncomputable def Try.pinned : Pinned := { name := "ytjmdgmbkkkoamaa", sum := "7883031752c6b5f0121a4653b33e44ee5962e708bb5fa5a7612d7e55d3163a93", checked := Try.checked }
namespace Rows
def none {H : Type} : Left H := { results := [], args := [] }

/-- 'portholelaw9.CipherKnown': WHATEVER THE INPUT: true; the input reads as it did. -/
def cipherKnownSpec : ChangeSpec := { name := "cipherKnown", fn := fun _ => fun
  | [] => { results := [.lit (.bool true)], args := [] }
  | _ => none }
def cipherKnownRow : OpenClaim := { program := "ytjmdgmbkkkoamaa", sum := "7883031752c6b5f0121a4653b33e44ee5962e708bb5fa5a7612d7e55d3163a93", func := "porthole/portholelaw9.CipherKnown", spec := "cipherKnown", inPlace := ["math/bits.Add64"], apart := false }
def CipherKnownSaid : Prop := cipherKnownRow.holds Try.pinned (OpenSpec.ofChange cipherKnownSpec)

/-- ITS FALSE NEIGHBOUR: 'it returns false'. Refute it at one input. -/
def cipherKnownWrong : ChangeSpec := { name := "cipherKnown", fn := fun _ => fun
  | [] => { results := [.lit (.bool false)], args := [] }
  | _ => none }
def CipherKnownWrongFalsely : Prop := cipherKnownRow.holds Try.pinned (OpenSpec.ofChange cipherKnownWrong)

/-- 'portholelaw9.CipherBack': WHATEVER THE INPUT: true; the input reads as it did. -/
def cipherBackSpec : ChangeSpec := { name := "cipherBack", fn := fun _ => fun
  | [d1, d2, d3] => { results := [.lit (.bool true)], args := [d1, d2, d3] }
  | _ => none }
def cipherBackRow : OpenClaim := { program := "ytjmdgmbkkkoamaa", sum := "7883031752c6b5f0121a4653b33e44ee5962e708bb5fa5a7612d7e55d3163a93", func := "porthole/portholelaw9.CipherBack", spec := "cipherBack", inPlace := ["math/bits.Add64"], apart := false }
def CipherBackSaid : Prop := cipherBackRow.holds Try.pinned (OpenSpec.ofChange cipherBackSpec)

/-- ITS FALSE NEIGHBOUR: 'it returns false'. Refute it at one input. -/
def cipherBackWrong : ChangeSpec := { name := "cipherBack", fn := fun _ => fun
  | [d1, d2, d3] => { results := [.lit (.bool false)], args := [d1, d2, d3] }
  | _ => none }
def CipherBackWrongFalsely : Prop := cipherBackRow.holds Try.pinned (OpenSpec.ofChange cipherBackWrong)

/-- 'portholelaw9.CipherNonces': WHATEVER THE INPUT: true; the input reads as it did. -/
def cipherNoncesSpec : ChangeSpec := { name := "cipherNonces", fn := fun _ => fun
  | [d1, d2, d3] => { results := [.lit (.bool true)], args := [d1, d2, d3] }
  | _ => none }
def cipherNoncesRow : OpenClaim := { program := "ytjmdgmbkkkoamaa", sum := "7883031752c6b5f0121a4653b33e44ee5962e708bb5fa5a7612d7e55d3163a93", func := "porthole/portholelaw9.CipherNonces", spec := "cipherNonces", inPlace := ["math/bits.Add64"], apart := false }
def CipherNoncesSaid : Prop := cipherNoncesRow.holds Try.pinned (OpenSpec.ofChange cipherNoncesSpec)

/-- ITS FALSE NEIGHBOUR: 'it returns false'. Refute it at one input. -/
def cipherNoncesWrong : ChangeSpec := { name := "cipherNonces", fn := fun _ => fun
  | [d1, d2, d3] => { results := [.lit (.bool false)], args := [d1, d2, d3] }
  | _ => none }
def CipherNoncesWrongFalsely : Prop := cipherNoncesRow.holds Try.pinned (OpenSpec.ofChange cipherNoncesWrong)

/-- 'portholelaw9.CipherFails': WHATEVER THE INPUT: true; the input reads as it did. -/
def cipherFailsSpec : ChangeSpec := { name := "cipherFails", fn := fun _ => fun
  | [d1, d2, d3] => { results := [.lit (.bool true)], args := [d1, d2, d3] }
  | _ => none }
def cipherFailsRow : OpenClaim := { program := "ytjmdgmbkkkoamaa", sum := "7883031752c6b5f0121a4653b33e44ee5962e708bb5fa5a7612d7e55d3163a93", func := "porthole/portholelaw9.CipherFails", spec := "cipherFails", inPlace := ["math/bits.Add64"], apart := false }
def CipherFailsSaid : Prop := cipherFailsRow.holds Try.pinned (OpenSpec.ofChange cipherFailsSpec)

/-- ITS FALSE NEIGHBOUR: 'it returns false'. Refute it at one input. -/
def cipherFailsWrong : ChangeSpec := { name := "cipherFails", fn := fun _ => fun
  | [d1, d2, d3] => { results := [.lit (.bool false)], args := [d1, d2, d3] }
  | _ => none }
def CipherFailsWrongFalsely : Prop := cipherFailsRow.holds Try.pinned (OpenSpec.ofChange cipherFailsWrong)

/-- 'portholelaw9.CipherCopies': WHATEVER THE INPUT: true; the input reads as it did. -/
def cipherCopiesSpec : ChangeSpec := { name := "cipherCopies", fn := fun _ => fun
  | [d1, d2, d3] => { results := [.lit (.bool true)], args := [d1, d2, d3] }
  | _ => none }
def cipherCopiesRow : OpenClaim := { program := "ytjmdgmbkkkoamaa", sum := "7883031752c6b5f0121a4653b33e44ee5962e708bb5fa5a7612d7e55d3163a93", func := "porthole/portholelaw9.CipherCopies", spec := "cipherCopies", inPlace := ["math/bits.Add64"], apart := false }
def CipherCopiesSaid : Prop := cipherCopiesRow.holds Try.pinned (OpenSpec.ofChange cipherCopiesSpec)

/-- ITS FALSE NEIGHBOUR: 'it returns false'. Refute it at one input. -/
def cipherCopiesWrong : ChangeSpec := { name := "cipherCopies", fn := fun _ => fun
  | [d1, d2, d3] => { results := [.lit (.bool false)], args := [d1, d2, d3] }
  | _ => none }
def CipherCopiesWrongFalsely : Prop := cipherCopiesRow.holds Try.pinned (OpenSpec.ofChange cipherCopiesWrong)

/- THE SECOND FORM. 'bulk': how many values and letters a reading holds, each counted each time it is reached (what is shared counts as often as it is met; a slice's spare places count too). A statement '..UptoSaid' is the law's where the arguments, and the package variables that the reading takes, are together of bulk at most 1048576: NARROWER than '..Said'. Prove '..Said' where nothing that the law and all that it calls make is longer than what came in: it says more and counts as full. Else prove '..UptoSaid'. A law counts once. -/
mutual
def uptoBulk {H : Type} : DataW H → Nat
  | .lit (.string bytes) => bytes.length + 1
  | .lit _ => 1
  | .nil => 1
  | .ptr d => uptoBulk d + 1
  | .slice elems spare => uptoBulkAll elems + uptoBulkAll spare + 1
  | .agg parts => uptoBulkAll parts + 1
  | .iface _ d => uptoBulk d + 1
  | .map entries => uptoBulkEntries entries + 1
  | .held _ => 1
def uptoBulkAll {H : Type} : List (DataW H) → Nat
  | [] => 0
  | d :: r => uptoBulk d + uptoBulkAll r
def uptoBulkEntries {H : Type} : List (Lit × DataW H) → Nat
  | [] => 0
  | x :: r => uptoBulkEntry x + uptoBulkEntries r
def uptoBulkEntry {H : Type} : Lit × DataW H → Nat
  | (.string bytes, d) => bytes.length + uptoBulk d + 1
  | (_, d) => uptoBulk d + 1
 end
def uptoSmall : (H : Type) → List (DataW H) → Bool := fun _ ds => decide (uptoBulkAll ds ≤ 1048576)
def OpenSpec.upto (s : _root_.Go.ChangeSpec) : _root_.Go.OpenSpec := { _root_.Go.OpenSpec.ofChange s with cond := some uptoSmall }

/-- 'portholelaw9.CipherKnown', WHERE WHAT IT READS IS OF BULK AT MOST 1048576: true; the input reads as it did. -/
def cipherKnownUptoRow : OpenClaim := { program := "ytjmdgmbkkkoamaa", sum := "7883031752c6b5f0121a4653b33e44ee5962e708bb5fa5a7612d7e55d3163a93", func := "porthole/portholelaw9.CipherKnown", spec := "cipherKnown", inPlace := ["math/bits.Add64"], apart := false, narrowed := true }
def CipherKnownUptoSaid : Prop := cipherKnownUptoRow.holds Try.pinned (OpenSpec.upto cipherKnownSpec)

/-- 'portholelaw9.CipherBack', WHERE WHAT IT READS IS OF BULK AT MOST 1048576: true; the input reads as it did. -/
def cipherBackUptoRow : OpenClaim := { program := "ytjmdgmbkkkoamaa", sum := "7883031752c6b5f0121a4653b33e44ee5962e708bb5fa5a7612d7e55d3163a93", func := "porthole/portholelaw9.CipherBack", spec := "cipherBack", inPlace := ["math/bits.Add64"], apart := false, narrowed := true }
def CipherBackUptoSaid : Prop := cipherBackUptoRow.holds Try.pinned (OpenSpec.upto cipherBackSpec)

/-- 'portholelaw9.CipherNonces', WHERE WHAT IT READS IS OF BULK AT MOST 1048576: true; the input reads as it did. -/
def cipherNoncesUptoRow : OpenClaim := { program := "ytjmdgmbkkkoamaa", sum := "7883031752c6b5f0121a4653b33e44ee5962e708bb5fa5a7612d7e55d3163a93", func := "porthole/portholelaw9.CipherNonces", spec := "cipherNonces", inPlace := ["math/bits.Add64"], apart := false, narrowed := true }
def CipherNoncesUptoSaid : Prop := cipherNoncesUptoRow.holds Try.pinned (OpenSpec.upto cipherNoncesSpec)

/-- 'portholelaw9.CipherFails', WHERE WHAT IT READS IS OF BULK AT MOST 1048576: true; the input reads as it did. -/
def cipherFailsUptoRow : OpenClaim := { program := "ytjmdgmbkkkoamaa", sum := "7883031752c6b5f0121a4653b33e44ee5962e708bb5fa5a7612d7e55d3163a93", func := "porthole/portholelaw9.CipherFails", spec := "cipherFails", inPlace := ["math/bits.Add64"], apart := false, narrowed := true }
def CipherFailsUptoSaid : Prop := cipherFailsUptoRow.holds Try.pinned (OpenSpec.upto cipherFailsSpec)

/-- 'portholelaw9.CipherCopies', WHERE WHAT IT READS IS OF BULK AT MOST 1048576: true; the input reads as it did. -/
def cipherCopiesUptoRow : OpenClaim := { program := "ytjmdgmbkkkoamaa", sum := "7883031752c6b5f0121a4653b33e44ee5962e708bb5fa5a7612d7e55d3163a93", func := "porthole/portholelaw9.CipherCopies", spec := "cipherCopies", inPlace := ["math/bits.Add64"], apart := false, narrowed := true }
def CipherCopiesUptoSaid : Prop := cipherCopiesUptoRow.holds Try.pinned (OpenSpec.upto cipherCopiesSpec)

end Rows
end Go.Proofs.Ytjmdgmbkkkoamaa
