/-
  NARROWER THAN 'FOR EVERY INPUT', by the rows' own cells (each row's printed sentence says how): ShakeKnown: laid · ShakePlays: laid · ShakeAgrees: laid · ShakeTurns: laid · ShakeLong: laid.
  DERIVED. THE GIVEN ROWS OF THIS SEAT. 5 by the template 'for every input the law returns true; each argument reads behind the call as it read before'; 0 by the template 'total and deterministic' (their statements: YtlnbjehimabaiaaGreatDoorTotals.lean).
  GIVEN WITH THE SEED: the statements are not yours to turn. If you find one false, say at which input.
  Laid BY PROGRAM, IN A SANDBOX (cutbox-rows.mjs): the forced cells as the released guide's own fill.sh prints them over the translation f0b8c528842926a8… (all of the seat's roots in one cut). By AI agents, Wed Nov 11 2026. No macro, syntax, notation, axiom, sorry.
-/
import Derived.Test.YtlnbjehimabaiaaGreatDoorChecked
import GoSem.Claim
import GoSem.ClaimJoined
import GoSem.ClaimMapViews
import Derived.JoinedTies
import Derived.KernelRfl
namespace Go.Proofs.YtlnbjehimabaiaaGreatDoor
/- THE CELL 'sum', in the pinned program and in every row, IS THE sha256 OF THE DUMP (.gsa) THAT YtlnbjehimabaiaaGreatDoorProg.lean LOADS. Nothing in Lean hashes anything: it is a label: what it is worth is what the hold of that sum in a sandbox is worth. -/
noncomputable def Tryz.pinned : Pinned := { name := "ytlnbjehimabaiaagreatdoor", sum := "f0b8c528842926a81f334badd89de38ccfffeec72b85aa16c874ccc49297f1f6", checked := Tryz.checked }
namespace Rows
def none {H : Type} : Left H := { results := [], args := [] }

/- WHAT THE LISTED PACKAGE-LEVEL VARIABLES READ AS WHEN THE CALL BEGINS. Each datum BY PROGRAM (the guide's laid-datum.mjs) off the statement by which the dump's own 'gosem.cut.vars' lays the variable. In a bare row this is a premise. The card (YtlnbjehimabaiaaGreatDoorCards.lean) ties it to the program's text. -/
def laid_porthole_blake_iv {H : Type} : DataW H := .agg [.lit (.int .u32 1779033703), .lit (.int .u32 3144134277), .lit (.int .u32 1013904242), .lit (.int .u32 2773480762), .lit (.int .u32 1359893119), .lit (.int .u32 2600822924), .lit (.int .u32 528734635), .lit (.int .u32 1541459225)]
def laid_porthole_blake_sigma {H : Type} : DataW H := .agg [.agg [.lit (.int .u8 0), .lit (.int .u8 1), .lit (.int .u8 2), .lit (.int .u8 3), .lit (.int .u8 4), .lit (.int .u8 5), .lit (.int .u8 6), .lit (.int .u8 7), .lit (.int .u8 8), .lit (.int .u8 9), .lit (.int .u8 10), .lit (.int .u8 11), .lit (.int .u8 12), .lit (.int .u8 13), .lit (.int .u8 14), .lit (.int .u8 15)], .agg [.lit (.int .u8 14), .lit (.int .u8 10), .lit (.int .u8 4), .lit (.int .u8 8), .lit (.int .u8 9), .lit (.int .u8 15), .lit (.int .u8 13), .lit (.int .u8 6), .lit (.int .u8 1), .lit (.int .u8 12), .lit (.int .u8 0), .lit (.int .u8 2), .lit (.int .u8 11), .lit (.int .u8 7), .lit (.int .u8 5), .lit (.int .u8 3)], .agg [.lit (.int .u8 11), .lit (.int .u8 8), .lit (.int .u8 12), .lit (.int .u8 0), .lit (.int .u8 5), .lit (.int .u8 2), .lit (.int .u8 15), .lit (.int .u8 13), .lit (.int .u8 10), .lit (.int .u8 14), .lit (.int .u8 3), .lit (.int .u8 6), .lit (.int .u8 7), .lit (.int .u8 1), .lit (.int .u8 9), .lit (.int .u8 4)], .agg [.lit (.int .u8 7), .lit (.int .u8 9), .lit (.int .u8 3), .lit (.int .u8 1), .lit (.int .u8 13), .lit (.int .u8 12), .lit (.int .u8 11), .lit (.int .u8 14), .lit (.int .u8 2), .lit (.int .u8 6), .lit (.int .u8 5), .lit (.int .u8 10), .lit (.int .u8 4), .lit (.int .u8 0), .lit (.int .u8 15), .lit (.int .u8 8)], .agg [.lit (.int .u8 9), .lit (.int .u8 0), .lit (.int .u8 5), .lit (.int .u8 7), .lit (.int .u8 2), .lit (.int .u8 4), .lit (.int .u8 10), .lit (.int .u8 15), .lit (.int .u8 14), .lit (.int .u8 1), .lit (.int .u8 11), .lit (.int .u8 12), .lit (.int .u8 6), .lit (.int .u8 8), .lit (.int .u8 3), .lit (.int .u8 13)], .agg [.lit (.int .u8 2), .lit (.int .u8 12), .lit (.int .u8 6), .lit (.int .u8 10), .lit (.int .u8 0), .lit (.int .u8 11), .lit (.int .u8 8), .lit (.int .u8 3), .lit (.int .u8 4), .lit (.int .u8 13), .lit (.int .u8 7), .lit (.int .u8 5), .lit (.int .u8 15), .lit (.int .u8 14), .lit (.int .u8 1), .lit (.int .u8 9)], .agg [.lit (.int .u8 12), .lit (.int .u8 5), .lit (.int .u8 1), .lit (.int .u8 15), .lit (.int .u8 14), .lit (.int .u8 13), .lit (.int .u8 4), .lit (.int .u8 10), .lit (.int .u8 0), .lit (.int .u8 7), .lit (.int .u8 6), .lit (.int .u8 3), .lit (.int .u8 9), .lit (.int .u8 2), .lit (.int .u8 8), .lit (.int .u8 11)], .agg [.lit (.int .u8 13), .lit (.int .u8 11), .lit (.int .u8 7), .lit (.int .u8 14), .lit (.int .u8 12), .lit (.int .u8 1), .lit (.int .u8 3), .lit (.int .u8 9), .lit (.int .u8 5), .lit (.int .u8 0), .lit (.int .u8 15), .lit (.int .u8 4), .lit (.int .u8 8), .lit (.int .u8 6), .lit (.int .u8 2), .lit (.int .u8 10)], .agg [.lit (.int .u8 6), .lit (.int .u8 15), .lit (.int .u8 14), .lit (.int .u8 9), .lit (.int .u8 11), .lit (.int .u8 3), .lit (.int .u8 0), .lit (.int .u8 8), .lit (.int .u8 12), .lit (.int .u8 2), .lit (.int .u8 13), .lit (.int .u8 7), .lit (.int .u8 1), .lit (.int .u8 4), .lit (.int .u8 10), .lit (.int .u8 5)], .agg [.lit (.int .u8 10), .lit (.int .u8 2), .lit (.int .u8 8), .lit (.int .u8 4), .lit (.int .u8 7), .lit (.int .u8 6), .lit (.int .u8 1), .lit (.int .u8 5), .lit (.int .u8 15), .lit (.int .u8 11), .lit (.int .u8 9), .lit (.int .u8 14), .lit (.int .u8 3), .lit (.int .u8 12), .lit (.int .u8 13), .lit (.int .u8 0)]]
def laid_porthole_shake_tokens {H : Type} : DataW H := .agg [.lit (.string [101]), .lit (.string [101, 61, 115, 62]), .lit (.string [115, 60])]
def laid_porthole_portholeref1_prime {H : Type} : DataW H := .agg [.lit (.int .u64 65517), .lit (.int .u64 65535), .lit (.int .u64 65535), .lit (.int .u64 65535), .lit (.int .u64 65535), .lit (.int .u64 65535), .lit (.int .u64 65535), .lit (.int .u64 65535), .lit (.int .u64 65535), .lit (.int .u64 65535), .lit (.int .u64 65535), .lit (.int .u64 65535), .lit (.int .u64 65535), .lit (.int .u64 65535), .lit (.int .u64 65535), .lit (.int .u64 32767)]
def laid_porthole_portholeref4_rows {H : Type} : DataW H := .agg [.agg [.lit (.int .i64 0), .lit (.int .i64 4), .lit (.int .i64 8), .lit (.int .i64 12)], .agg [.lit (.int .i64 1), .lit (.int .i64 5), .lit (.int .i64 9), .lit (.int .i64 13)], .agg [.lit (.int .i64 2), .lit (.int .i64 6), .lit (.int .i64 10), .lit (.int .i64 14)], .agg [.lit (.int .i64 3), .lit (.int .i64 7), .lit (.int .i64 11), .lit (.int .i64 15)], .agg [.lit (.int .i64 0), .lit (.int .i64 5), .lit (.int .i64 10), .lit (.int .i64 15)], .agg [.lit (.int .i64 1), .lit (.int .i64 6), .lit (.int .i64 11), .lit (.int .i64 12)], .agg [.lit (.int .i64 2), .lit (.int .i64 7), .lit (.int .i64 8), .lit (.int .i64 13)], .agg [.lit (.int .i64 3), .lit (.int .i64 4), .lit (.int .i64 9), .lit (.int .i64 14)]]
def laid_porthole_portholeref4_iv {H : Type} : DataW H := .agg [.lit (.int .u32 1779033703), .lit (.int .u32 3144134277), .lit (.int .u32 1013904242), .lit (.int .u32 2773480762), .lit (.int .u32 1359893119), .lit (.int .u32 2600822924), .lit (.int .u32 528734635), .lit (.int .u32 1541459225)]
def laid_porthole_portholeref4_sigma {H : Type} : DataW H := .agg [.agg [.lit (.int .i64 0), .lit (.int .i64 1), .lit (.int .i64 2), .lit (.int .i64 3), .lit (.int .i64 4), .lit (.int .i64 5), .lit (.int .i64 6), .lit (.int .i64 7), .lit (.int .i64 8), .lit (.int .i64 9), .lit (.int .i64 10), .lit (.int .i64 11), .lit (.int .i64 12), .lit (.int .i64 13), .lit (.int .i64 14), .lit (.int .i64 15)], .agg [.lit (.int .i64 14), .lit (.int .i64 10), .lit (.int .i64 4), .lit (.int .i64 8), .lit (.int .i64 9), .lit (.int .i64 15), .lit (.int .i64 13), .lit (.int .i64 6), .lit (.int .i64 1), .lit (.int .i64 12), .lit (.int .i64 0), .lit (.int .i64 2), .lit (.int .i64 11), .lit (.int .i64 7), .lit (.int .i64 5), .lit (.int .i64 3)], .agg [.lit (.int .i64 11), .lit (.int .i64 8), .lit (.int .i64 12), .lit (.int .i64 0), .lit (.int .i64 5), .lit (.int .i64 2), .lit (.int .i64 15), .lit (.int .i64 13), .lit (.int .i64 10), .lit (.int .i64 14), .lit (.int .i64 3), .lit (.int .i64 6), .lit (.int .i64 7), .lit (.int .i64 1), .lit (.int .i64 9), .lit (.int .i64 4)], .agg [.lit (.int .i64 7), .lit (.int .i64 9), .lit (.int .i64 3), .lit (.int .i64 1), .lit (.int .i64 13), .lit (.int .i64 12), .lit (.int .i64 11), .lit (.int .i64 14), .lit (.int .i64 2), .lit (.int .i64 6), .lit (.int .i64 5), .lit (.int .i64 10), .lit (.int .i64 4), .lit (.int .i64 0), .lit (.int .i64 15), .lit (.int .i64 8)], .agg [.lit (.int .i64 9), .lit (.int .i64 0), .lit (.int .i64 5), .lit (.int .i64 7), .lit (.int .i64 2), .lit (.int .i64 4), .lit (.int .i64 10), .lit (.int .i64 15), .lit (.int .i64 14), .lit (.int .i64 1), .lit (.int .i64 11), .lit (.int .i64 12), .lit (.int .i64 6), .lit (.int .i64 8), .lit (.int .i64 3), .lit (.int .i64 13)], .agg [.lit (.int .i64 2), .lit (.int .i64 12), .lit (.int .i64 6), .lit (.int .i64 10), .lit (.int .i64 0), .lit (.int .i64 11), .lit (.int .i64 8), .lit (.int .i64 3), .lit (.int .i64 4), .lit (.int .i64 13), .lit (.int .i64 7), .lit (.int .i64 5), .lit (.int .i64 15), .lit (.int .i64 14), .lit (.int .i64 1), .lit (.int .i64 9)], .agg [.lit (.int .i64 12), .lit (.int .i64 5), .lit (.int .i64 1), .lit (.int .i64 15), .lit (.int .i64 14), .lit (.int .i64 13), .lit (.int .i64 4), .lit (.int .i64 10), .lit (.int .i64 0), .lit (.int .i64 7), .lit (.int .i64 6), .lit (.int .i64 3), .lit (.int .i64 9), .lit (.int .i64 2), .lit (.int .i64 8), .lit (.int .i64 11)], .agg [.lit (.int .i64 13), .lit (.int .i64 11), .lit (.int .i64 7), .lit (.int .i64 14), .lit (.int .i64 12), .lit (.int .i64 1), .lit (.int .i64 3), .lit (.int .i64 9), .lit (.int .i64 5), .lit (.int .i64 0), .lit (.int .i64 15), .lit (.int .i64 4), .lit (.int .i64 8), .lit (.int .i64 6), .lit (.int .i64 2), .lit (.int .i64 10)], .agg [.lit (.int .i64 6), .lit (.int .i64 15), .lit (.int .i64 14), .lit (.int .i64 9), .lit (.int .i64 11), .lit (.int .i64 3), .lit (.int .i64 0), .lit (.int .i64 8), .lit (.int .i64 12), .lit (.int .i64 2), .lit (.int .i64 13), .lit (.int .i64 7), .lit (.int .i64 1), .lit (.int .i64 4), .lit (.int .i64 10), .lit (.int .i64 5)], .agg [.lit (.int .i64 10), .lit (.int .i64 2), .lit (.int .i64 8), .lit (.int .i64 4), .lit (.int .i64 7), .lit (.int .i64 6), .lit (.int .i64 1), .lit (.int .i64 5), .lit (.int .i64 15), .lit (.int .i64 11), .lit (.int .i64 9), .lit (.int .i64 14), .lit (.int .i64 3), .lit (.int .i64 12), .lit (.int .i64 13), .lit (.int .i64 0)]]

/-- 'portholelaw11.ShakeKnown': WHATEVER THE INPUT: true; the input reads as it did. -/
def shakeKnownSpec : ChangeSpec := { name := "shakeKnown", fn := fun _ => fun
  | [] => { results := [.lit (.bool true)], args := [] }
  | _ => none }
def shakeKnownRow : OpenClaim := { program := "ytlnbjehimabaiaagreatdoor", sum := "f0b8c528842926a81f334badd89de38ccfffeec72b85aa16c874ccc49297f1f6", func := "porthole/portholelaw11.ShakeKnown", spec := "shakeKnown", inPlace := ["math/bits.Add64", "math/bits.Sub64"], named := ["porthole/blake.iv", "porthole/blake.sigma", "porthole/shake.tokens"], apart := false, laid := [("porthole/blake.iv", laid_porthole_blake_iv), ("porthole/blake.sigma", laid_porthole_blake_sigma), ("porthole/shake.tokens", laid_porthole_shake_tokens)] }
def ShakeKnownSaid : Prop := shakeKnownRow.holds Tryz.pinned (OpenSpec.ofChange shakeKnownSpec)

/-- ITS FALSE NEIGHBOUR: 'it returns false'. Refute it at one input. -/
def shakeKnownWrong : ChangeSpec := { name := "shakeKnown", fn := fun _ => fun
  | [] => { results := [.lit (.bool false)], args := [] }
  | _ => none }
def ShakeKnownWrongFalsely : Prop := shakeKnownRow.holds Tryz.pinned (OpenSpec.ofChange shakeKnownWrong)

/-- 'portholelaw11.ShakePlays': WHATEVER THE INPUT: true; the input reads as it did. -/
def shakePlaysSpec : ChangeSpec := { name := "shakePlays", fn := fun _ => fun
  | [d1, d2, d3, d4] => { results := [.lit (.bool true)], args := [d1, d2, d3, d4] }
  | _ => none }
def shakePlaysRow : OpenClaim := { program := "ytlnbjehimabaiaagreatdoor", sum := "f0b8c528842926a81f334badd89de38ccfffeec72b85aa16c874ccc49297f1f6", func := "porthole/portholelaw11.ShakePlays", spec := "shakePlays", inPlace := ["math/bits.Add64", "math/bits.Sub64"], named := ["porthole/blake.iv", "porthole/blake.sigma", "porthole/shake.tokens", "porthole/portholeref4.iv", "porthole/portholeref4.rows", "porthole/portholeref4.sigma", "porthole/portholeref1.prime"], apart := false, laid := [("porthole/blake.iv", laid_porthole_blake_iv), ("porthole/blake.sigma", laid_porthole_blake_sigma), ("porthole/portholeref1.prime", laid_porthole_portholeref1_prime), ("porthole/portholeref4.rows", laid_porthole_portholeref4_rows), ("porthole/portholeref4.iv", laid_porthole_portholeref4_iv), ("porthole/portholeref4.sigma", laid_porthole_portholeref4_sigma), ("porthole/shake.tokens", laid_porthole_shake_tokens)] }
def ShakePlaysSaid : Prop := shakePlaysRow.holds Tryz.pinned (OpenSpec.ofChange shakePlaysSpec)

/-- ITS FALSE NEIGHBOUR: 'it returns false'. Refute it at one input. -/
def shakePlaysWrong : ChangeSpec := { name := "shakePlays", fn := fun _ => fun
  | [d1, d2, d3, d4] => { results := [.lit (.bool false)], args := [d1, d2, d3, d4] }
  | _ => none }
def ShakePlaysWrongFalsely : Prop := shakePlaysRow.holds Tryz.pinned (OpenSpec.ofChange shakePlaysWrong)

/-- 'portholelaw11.ShakeAgrees': WHATEVER THE INPUT: true; the input reads as it did. -/
def shakeAgreesSpec : ChangeSpec := { name := "shakeAgrees", fn := fun _ => fun
  | [d1, d2, d3, d4, d5, d6, d7, d8] => { results := [.lit (.bool true)], args := [d1, d2, d3, d4, d5, d6, d7, d8] }
  | _ => none }
def shakeAgreesRow : OpenClaim := { program := "ytlnbjehimabaiaagreatdoor", sum := "f0b8c528842926a81f334badd89de38ccfffeec72b85aa16c874ccc49297f1f6", func := "porthole/portholelaw11.ShakeAgrees", spec := "shakeAgrees", inPlace := ["math/bits.Add64", "math/bits.Sub64"], named := ["porthole/blake.iv", "porthole/blake.sigma", "porthole/shake.tokens"], apart := false, laid := [("porthole/blake.iv", laid_porthole_blake_iv), ("porthole/blake.sigma", laid_porthole_blake_sigma), ("porthole/shake.tokens", laid_porthole_shake_tokens)] }
def ShakeAgreesSaid : Prop := shakeAgreesRow.holds Tryz.pinned (OpenSpec.ofChange shakeAgreesSpec)

/-- ITS FALSE NEIGHBOUR: 'it returns false'. Refute it at one input. -/
def shakeAgreesWrong : ChangeSpec := { name := "shakeAgrees", fn := fun _ => fun
  | [d1, d2, d3, d4, d5, d6, d7, d8] => { results := [.lit (.bool false)], args := [d1, d2, d3, d4, d5, d6, d7, d8] }
  | _ => none }
def ShakeAgreesWrongFalsely : Prop := shakeAgreesRow.holds Tryz.pinned (OpenSpec.ofChange shakeAgreesWrong)

/-- 'portholelaw11.ShakeTurns': WHATEVER THE INPUT: true; the input reads as it did. -/
def shakeTurnsSpec : ChangeSpec := { name := "shakeTurns", fn := fun _ => fun
  | [d1, d2] => { results := [.lit (.bool true)], args := [d1, d2] }
  | _ => none }
def shakeTurnsRow : OpenClaim := { program := "ytlnbjehimabaiaagreatdoor", sum := "f0b8c528842926a81f334badd89de38ccfffeec72b85aa16c874ccc49297f1f6", func := "porthole/portholelaw11.ShakeTurns", spec := "shakeTurns", inPlace := ["math/bits.Add64", "math/bits.Sub64"], named := ["porthole/blake.iv", "porthole/blake.sigma", "porthole/shake.tokens"], apart := false, laid := [("porthole/blake.iv", laid_porthole_blake_iv), ("porthole/blake.sigma", laid_porthole_blake_sigma), ("porthole/shake.tokens", laid_porthole_shake_tokens)] }
def ShakeTurnsSaid : Prop := shakeTurnsRow.holds Tryz.pinned (OpenSpec.ofChange shakeTurnsSpec)

/-- ITS FALSE NEIGHBOUR: 'it returns false'. Refute it at one input. -/
def shakeTurnsWrong : ChangeSpec := { name := "shakeTurns", fn := fun _ => fun
  | [d1, d2] => { results := [.lit (.bool false)], args := [d1, d2] }
  | _ => none }
def ShakeTurnsWrongFalsely : Prop := shakeTurnsRow.holds Tryz.pinned (OpenSpec.ofChange shakeTurnsWrong)

/-- 'portholelaw11.ShakeLong': WHATEVER THE INPUT: true; the input reads as it did. -/
def shakeLongSpec : ChangeSpec := { name := "shakeLong", fn := fun _ => fun
  | [d1, d2] => { results := [.lit (.bool true)], args := [d1, d2] }
  | _ => none }
def shakeLongRow : OpenClaim := { program := "ytlnbjehimabaiaagreatdoor", sum := "f0b8c528842926a81f334badd89de38ccfffeec72b85aa16c874ccc49297f1f6", func := "porthole/portholelaw11.ShakeLong", spec := "shakeLong", inPlace := ["math/bits.Add64", "math/bits.Sub64"], named := ["porthole/blake.iv", "porthole/blake.sigma", "porthole/shake.tokens"], apart := false, laid := [("porthole/blake.iv", laid_porthole_blake_iv), ("porthole/blake.sigma", laid_porthole_blake_sigma), ("porthole/shake.tokens", laid_porthole_shake_tokens)] }
def ShakeLongSaid : Prop := shakeLongRow.holds Tryz.pinned (OpenSpec.ofChange shakeLongSpec)

/-- ITS FALSE NEIGHBOUR: 'it returns false'. Refute it at one input. -/
def shakeLongWrong : ChangeSpec := { name := "shakeLong", fn := fun _ => fun
  | [d1, d2] => { results := [.lit (.bool false)], args := [d1, d2] }
  | _ => none }
def ShakeLongWrongFalsely : Prop := shakeLongRow.holds Tryz.pinned (OpenSpec.ofChange shakeLongWrong)

/- THE SECOND FORM. 'bulk': how many values and letters a reading holds, each counted each time it is reached (what is shared counts as often as it is met; a slice's spare places count too). A statement '..UptoSaid' is the law's where the arguments, and the package variables that the reading takes, are together of bulk at most 1048576: NARROWER than '..Said'. Prove '..Said' where nothing that the law and all that it calls make is longer than what came in: it says more and counts as full. Else prove '..UptoSaid'. A law counts once. -/
mutual
def uptoBulk {H : Type} : DataW H → Nat
  | .lit (.string bytes) => bytes.length + 1
  | .lit _ => 1
  | .nil => 1
  | .ptr d => uptoBulk d + 1
  | .slice elems spare => uptoBulkAll elems + uptoBulkAll spare + 1
  | .agg parts => uptoBulkAll parts + 1
  | .iface _ d => uptoBulk d + 1
  | .map entries => uptoBulkEntries entries + 1
  | .held _ => 1
def uptoBulkAll {H : Type} : List (DataW H) → Nat
  | [] => 0
  | d :: r => uptoBulk d + uptoBulkAll r
def uptoBulkEntries {H : Type} : List (Lit × DataW H) → Nat
  | [] => 0
  | x :: r => uptoBulkEntry x + uptoBulkEntries r
def uptoBulkEntry {H : Type} : Lit × DataW H → Nat
  | (.string bytes, d) => bytes.length + uptoBulk d + 1
  | (_, d) => uptoBulk d + 1
 end
def uptoSmall : (H : Type) → List (DataW H) → Bool := fun _ ds => decide (uptoBulkAll ds ≤ 1048576)
def OpenSpec.upto (s : _root_.Go.ChangeSpec) : _root_.Go.OpenSpec := { _root_.Go.OpenSpec.ofChange s with cond := some uptoSmall }

/-- 'portholelaw11.ShakeKnown', WHERE WHAT IT READS IS OF BULK AT MOST 1048576: true; the input reads as it did. -/
def shakeKnownUptoRow : OpenClaim := { program := "ytlnbjehimabaiaagreatdoor", sum := "f0b8c528842926a81f334badd89de38ccfffeec72b85aa16c874ccc49297f1f6", func := "porthole/portholelaw11.ShakeKnown", spec := "shakeKnown", inPlace := ["math/bits.Add64", "math/bits.Sub64"], named := ["porthole/blake.iv", "porthole/blake.sigma", "porthole/shake.tokens"], apart := false, laid := [("porthole/blake.iv", laid_porthole_blake_iv), ("porthole/blake.sigma", laid_porthole_blake_sigma), ("porthole/shake.tokens", laid_porthole_shake_tokens)], narrowed := true }
def ShakeKnownUptoSaid : Prop := shakeKnownUptoRow.holds Tryz.pinned (OpenSpec.upto shakeKnownSpec)

/-- 'portholelaw11.ShakePlays', WHERE WHAT IT READS IS OF BULK AT MOST 1048576: true; the input reads as it did. -/
def shakePlaysUptoRow : OpenClaim := { program := "ytlnbjehimabaiaagreatdoor", sum := "f0b8c528842926a81f334badd89de38ccfffeec72b85aa16c874ccc49297f1f6", func := "porthole/portholelaw11.ShakePlays", spec := "shakePlays", inPlace := ["math/bits.Add64", "math/bits.Sub64"], named := ["porthole/blake.iv", "porthole/blake.sigma", "porthole/shake.tokens", "porthole/portholeref4.iv", "porthole/portholeref4.rows", "porthole/portholeref4.sigma", "porthole/portholeref1.prime"], apart := false, laid := [("porthole/blake.iv", laid_porthole_blake_iv), ("porthole/blake.sigma", laid_porthole_blake_sigma), ("porthole/portholeref1.prime", laid_porthole_portholeref1_prime), ("porthole/portholeref4.rows", laid_porthole_portholeref4_rows), ("porthole/portholeref4.iv", laid_porthole_portholeref4_iv), ("porthole/portholeref4.sigma", laid_porthole_portholeref4_sigma), ("porthole/shake.tokens", laid_porthole_shake_tokens)], narrowed := true }
def ShakePlaysUptoSaid : Prop := shakePlaysUptoRow.holds Tryz.pinned (OpenSpec.upto shakePlaysSpec)

/-- 'portholelaw11.ShakeAgrees', WHERE WHAT IT READS IS OF BULK AT MOST 1048576: true; the input reads as it did. -/
def shakeAgreesUptoRow : OpenClaim := { program := "ytlnbjehimabaiaagreatdoor", sum := "f0b8c528842926a81f334badd89de38ccfffeec72b85aa16c874ccc49297f1f6", func := "porthole/portholelaw11.ShakeAgrees", spec := "shakeAgrees", inPlace := ["math/bits.Add64", "math/bits.Sub64"], named := ["porthole/blake.iv", "porthole/blake.sigma", "porthole/shake.tokens"], apart := false, laid := [("porthole/blake.iv", laid_porthole_blake_iv), ("porthole/blake.sigma", laid_porthole_blake_sigma), ("porthole/shake.tokens", laid_porthole_shake_tokens)], narrowed := true }
def ShakeAgreesUptoSaid : Prop := shakeAgreesUptoRow.holds Tryz.pinned (OpenSpec.upto shakeAgreesSpec)

/-- 'portholelaw11.ShakeTurns', WHERE WHAT IT READS IS OF BULK AT MOST 1048576: true; the input reads as it did. -/
def shakeTurnsUptoRow : OpenClaim := { program := "ytlnbjehimabaiaagreatdoor", sum := "f0b8c528842926a81f334badd89de38ccfffeec72b85aa16c874ccc49297f1f6", func := "porthole/portholelaw11.ShakeTurns", spec := "shakeTurns", inPlace := ["math/bits.Add64", "math/bits.Sub64"], named := ["porthole/blake.iv", "porthole/blake.sigma", "porthole/shake.tokens"], apart := false, laid := [("porthole/blake.iv", laid_porthole_blake_iv), ("porthole/blake.sigma", laid_porthole_blake_sigma), ("porthole/shake.tokens", laid_porthole_shake_tokens)], narrowed := true }
def ShakeTurnsUptoSaid : Prop := shakeTurnsUptoRow.holds Tryz.pinned (OpenSpec.upto shakeTurnsSpec)

/-- 'portholelaw11.ShakeLong', WHERE WHAT IT READS IS OF BULK AT MOST 1048576: true; the input reads as it did. -/
def shakeLongUptoRow : OpenClaim := { program := "ytlnbjehimabaiaagreatdoor", sum := "f0b8c528842926a81f334badd89de38ccfffeec72b85aa16c874ccc49297f1f6", func := "porthole/portholelaw11.ShakeLong", spec := "shakeLong", inPlace := ["math/bits.Add64", "math/bits.Sub64"], named := ["porthole/blake.iv", "porthole/blake.sigma", "porthole/shake.tokens"], apart := false, laid := [("porthole/blake.iv", laid_porthole_blake_iv), ("porthole/blake.sigma", laid_porthole_blake_sigma), ("porthole/shake.tokens", laid_porthole_shake_tokens)], narrowed := true }
def ShakeLongUptoSaid : Prop := shakeLongUptoRow.holds Tryz.pinned (OpenSpec.upto shakeLongSpec)

end Rows
end Go.Proofs.YtlnbjehimabaiaaGreatDoor
