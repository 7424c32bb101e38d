/-
  Proved: the closed sentence OctetKnown returns true (the statement OctetKnownSaid). No condition.
-/
import Derived.Test.YtdndgjacpnjjaaaKnown
import Derived.Lib.SlBytesConst
import Derived.ProofKit
import Derived.OpenShut
import Derived.ShutString
import Derived.ChangeOld
namespace Go.Proofs.Ytdndgjacpnjjaaa
open Go.ChangeShapes Go.WideShapes Go.ChangeAt Go.RowKit

theorem own : ownKnob Try.prog.godebug = none := by kernel_rfl
theorem laidOut : laidOutB Try.prog = true := by kernel_rfl

/-- A literal of bytes whose row bears a mark. -/
theorem rd_marked (w : World) (l : List Int) (hb : Byt l) (cs : Array Value) (fr : Nat × Nat) (hcs : cs = (l.map (Value.int .u8)).toArray) (n : Nat) (hn : l.length = n) : Rd (w.alloc (.cells cs 5 fr)) (some ⟨w.heap.size, 0, none⟩) n n l := by
  subst hcs hn
  exact ⟨rfl, Nat.le_refl _, (fun h => by cases h), hb, fun _ => ⟨w.heap.size, 0, rfl, fun i hi => by
    rw [Nat.zero_add, cell_of_row _ _ _ _ _ _ (heap_alloc_new w _)]
    simp [List.getElem?_eq_getElem hi]⟩⟩

set_option maxHeartbeats 2000000 in
theorem octetKnown_walk (w : World) : Calls Try.prog 3 #[] w fun e w' => e = .returned (.bool true) ∧ Below w.heap.size w w' := by
  have hmk : ∀ w : World, (Instr.makeSlice 25 (.int .i64 7) (.int .i64 7)).run Try.prog w = .ok (.slice (some ⟨w.heap.size, 0, none⟩) 7 7) (w.alloc (.cells #[.int .u8 0, .int .u8 0, .int .u8 0, .int .u8 0, .int .u8 0, .int .u8 0, .int .u8 0] 5)) := fun _ => by kernel_rfl
  go_enter Try.func3, Try.ntmps3
  go_wp2_with fail
  refine (get64_any _ _ _ [0, 0, 0, 0, 0, 0, 0] _ (rd_lit w _ (byt_dec _ (by decide)) _ rfl 7 rfl) (by decide)).mono ?_
  rintro e w' ⟨rfl, rfl⟩
  rw [show got 8 [0, 0, 0, 0, 0, 0, 0] = 0 from by decide]
  go_wp2_with fail
  refine (get64_any _ _ _ [0, 0, 0, 0, 1, 0, 0, 0] _ (by simpa using rd_lit (w.alloc _) [0, 0, 0, 0, 1, 0, 0, 0] (byt_dec _ (by decide)) _ rfl 8 rfl) (by decide)).mono ?_
  rintro e w' ⟨rfl, rfl⟩
  rw [show got 8 [0, 0, 0, 0, 1, 0, 0, 0] = 4294967296 from by decide]
  go_wp2_with fail
  refine (known_any _).mono ?_
  rintro e w2 ⟨rfl, hb⟩
  have HB : Hid (Below w.heap.size w w2) := (((Below.refl _ _).alloc (Nat.le_refl _) _).alloc (by simp) _).trans (hb.mono (by simp; omega))
  clear hb hmk
  go_wp2_with fail
  refine (same_any _ _ _ [] _ _ _ [] _ (Rd.nil _ _ _ (fun _ => rfl)) (by simpa using rd_lit w2 [] (byt_dec _ (by decide)) _ rfl 0 rfl) (by decide) (by decide)).mono ?_
  rintro e w3 ⟨rfl, hb⟩
  have HB3 : Hid (Below w.heap.size w w3) := (HB.out.alloc HB.out.size _).trans (hb.mono (by have := HB.out.size; simp; omega))
  clear hb HB
  go_wp2_with fail
  refine (same_any _ _ _ [1] _ _ _ [1, 2] _ ((rd_lit w3 [1] (byt_dec _ (by decide)) _ rfl 1 rfl).alloc _) (by simpa using rd_lit (w3.alloc _) [1, 2] (byt_dec _ (by decide)) _ rfl 2 rfl) (by decide) (by decide)).mono ?_
  rintro e w4 ⟨rfl, hb⟩
  have HB4 : Hid (Below w.heap.size w w4) := ((HB3.out.alloc HB3.out.size _).alloc (by have := HB3.out.size; simp; omega) _).trans (hb.mono (by have := HB3.out.size; simp; omega))
  clear hb HB3
  have v1 := Go.Lib.run_convert_bytes_const (P := Try.prog) w4 25 5 #[.int .u8 97] 1 1 Try.underlying25 Try.underlying5
  have v2 := Go.Lib.run_convert_bytes_const (P := Try.prog) (w4.alloc (.cells #[.int .u8 97] 5 (1, 2))) 25 5 #[.int .u8 98, .int .u8 99] 2 2 Try.underlying25 Try.underlying5
  rw [show (w4.alloc (.cells #[.int .u8 97] 5 (1, 2))).heap.size = w4.heap.size + 1 by simp] at v2
  simp only [List.size_toArray, List.length_cons, List.length_nil, Nat.zero_add, Nat.reduceAdd] at v1 v2
  go_wp2_with fail
  have r1 : Rd ((w4.alloc (.cells #[.int .u8 97] 5 (1, 2))).alloc (.cells #[.int .u8 98, .int .u8 99] 5 (2, 3))) (some ⟨w4.heap.size, 0, none⟩) 1 1 [97] := (rd_marked w4 [97] (byt_dec _ (by decide)) _ (1, 2) rfl 1 rfl).alloc _
  have r2 : Rd ((w4.alloc (.cells #[.int .u8 97] 5 (1, 2))).alloc (.cells #[.int .u8 98, .int .u8 99] 5 (2, 3))) (some ⟨w4.heap.size + 1, 0, none⟩) 2 2 [98, 99] := by simpa using rd_marked (w4.alloc (.cells #[.int .u8 97] 5 (1, 2))) [98, 99] (byt_dec _ (by decide)) _ (2, 3) rfl 2 rfl
  have r3 := RdL.three _ _ _ _ _ _ _ _ _ _ _ _ _ 25 r1 (Rd.nil _ none 0 (fun _ => rfl)) r2
  have e1 : ((w4.alloc (.cells #[.int .u8 97] 5 (1, 2))).alloc (.cells #[.int .u8 98, .int .u8 99] 5 (2, 3))).heap.size = w4.heap.size + 2 := by simp
  rw [e1] at r3
  refine (join_g _ _ _ _ _ r3 (by decide) (by decide)).mono ?_
  rintro e w5 ⟨g, m, rfl, hm, ho, hrd, hb⟩
  have hs := str_run hrd ⟨#[97, 98, 99]⟩ (by decide)
  have HB5 : Hid (Below w.heap.size w w5) := (((HB4.out.alloc HB4.out.size _).alloc (by have := HB4.out.size; simp; omega) _).alloc (by have := HB4.out.size; simp; omega) _).trans (hb.mono (by have := HB4.out.size; simp; omega))
  clear r1 r2 r3 e1 v1 v2 hm ho hrd hb HB4
  go_wp2
  go_ret
  exact ⟨rfl, HB5.out⟩

set_option maxRecDepth 100000 in
theorem octetKnown_lifted (os : Os) (started : os.Started) (H : Type) (enc : TypeId × Value → H) :
    ReturnsInHanded {} Try.checked os 3 .any (Rows.octetKnownSpec.pre6 enc Try.prog Try.f3 Rows.octetKnownRow.domain false) (Rows.octetKnownSpec.post enc Try.prog Try.f3 false true false false) := by
  refine returnsInHanded_of_change (C := Try.checked) own started (by kernel_rfl) Try.func3
    (ChangeSpec.witness6 (enc := enc) (C := Try.checked) false ⟨#[], #[], []⟩ 8 (by kernel_rfl) (by kernel_rfl) (by kernel_rfl) (by kernel_rfl)) ?_
  intro W base args ds gs before hval0 hW hcnd _
  have hW' := hW
  obtain ⟨p, q, hA0, hV, rfl, hfz, hnd⟩ := hW
  have hA : DataW.TrodAll enc Try.prog W 0 (fun _ => true) true Try.f3.params.toList args.toList ds p := hA0
  rw [Try.params3] at hA
  obtain ⟨rfl, rfl, rfl⟩ := trodAll_none hA
  obtain ⟨rfl, rfl⟩ := trodVars_none hV
  clear hA0 hval0
  refine (octetKnown_walk W).mono fun e W' ⟨he, bel⟩ => ?_
  subst he
  exact ⟨_, rfl, _, _, _, [], [], [], hW', trodAll_mk1 (shut_bool Try.underlying4 _), trodAll_mk0, rfl, bel.frame _, fun h => by cases h⟩

/-- The statement. -/
theorem octetKnown_holds : Rows.OctetKnownSaid :=
  OpenClaim.holds_of_wide 3 Try.f3 rfl rfl rfl rfl rfl rfl rfl ⟨rfl, rfl, rfl, rfl, rfl⟩ rfl rfl rfl rfl rfl (by kernel_rfl) Try.func3 (by kernel_rfl)
    (of_decide_eq_true (by kernel_rfl)) (by unfold Func.isWrapper; first | (rw [if_pos (by decide +kernel)]; kernel_rfl) | (rw [if_neg (by decide +kernel)]; exact ⟨rfl, rfl⟩))
    (fun os started H enc _ => octetKnown_lifted os started H enc)
#print axioms octetKnown_holds
end Go.Proofs.Ytdndgjacpnjjaaa
