/-
  What portholehand's Plain and Name make of terms. No statement of the seat is proved here.
-/
import Derived.Test.YtifcdmiopanedaaDoorTPl2
import Derived.Test.YtifcdmiopanedaaDoorTVal
namespace Go.Proofs.YtifcdmiopanedaaDoor
open Go.RowKit
set_option linter.unusedVariables false

/-- What Plain makes of a term has its name. -/
theorem Tm.plain {t : TypeId} {v : Value} {l : List UInt8} {s : Nat} (h : Tm t v l s) : Plained (.iface t v) l :=
  h (fun t v l _ => Plained (.iface t v) l)
    (fun w => (plain_Empty w).mono (fun e w' h => ⟨[.int .i64 1, .int .i64 0, .int .i64 0, .slice none 0 0], h.1, rfl, fun P h0 h1 h2 h3 h4 h5 h6 h7 => h1 _ _, h.2⟩))
    (fun n n0 n1 w => (plain_Atom n w).mono (fun e w' h => ⟨[.int .i64 2, .int .i64 n, .int .i64 0, .slice none 0 0], h.1, rfl, fun P h0 h1 h2 h3 h4 h5 h6 h7 => h2 n _ n0 n1, h.2⟩))
    (fun n n0 n1 w => (plain_Public n w).mono (fun e w' h => ⟨[.int .i64 3, .int .i64 n, .int .i64 0, .slice none 0 0], h.1, rfl, fun P h0 h1 h2 h3 h4 h5 h6 h7 => h3 n _ n0 n1, h.2⟩))
    (fun n m n0 n1 m0 m1 w => (plain_Shared n m w).mono (fun e w' h => ⟨[.int .i64 4, .int .i64 n, .int .i64 m, .slice none 0 0], h.1, rfl, fun P h0 h1 h2 h3 h4 h5 h6 h7 => h4 n m n0 n1 m0 m1, h.2⟩))
    (fun n tx vx ty vy nx ny sx sy n0 n1 px py => plain_Chain n tx ty vx vy nx ny n0 n1 px py)
    (fun tx vx ty vy nx ny sx sy px py => plain_Digest tx ty vx vy nx ny px py)
    (fun n tx vx ty vy tz vz nx ny nz sx sy sz n0 n1 px py pz => plain_Box n tx ty tz vx vy vz nx ny nz n0 n1 px py pz)
theorem plained_nil : Plained .nilIface [63] := fun w => (plain_nil w).mono (fun e w' h => ⟨[.int .i64 0, .int .i64 0, .int .i64 0, .slice none 0 0], h.1, rfl, fun P h0 h1 h2 h3 h4 h5 h6 h7 => h0 _ _, h.2⟩)
set_option maxRecDepth 8000 in
set_option maxHeartbeats 4000000 in
/-- portholehand's Name of a term is its name. -/
theorem hname_c {v : Value} {l : List UInt8} (h : Plained v l) (hl : l.length ≤ 4611686018427387904) (w : World) : Calls Tryd.prog 19 #[v] w fun e w' => e = .returned (.string ⟨l.toArray⟩) ∧ Below w.heap.size w w' := by
  have hp : Hid (Plained v l) := h
  clear h
  go_enter Tryd.func19, Tryd.ntmps19
  go_wp2_with fail
  refine (hp.out w).mono ?_
  rintro e u ⟨cs, rfl, _, hr, hb⟩
  go_wp2_with fail
  refine (name12_c hr.out hl u (Below.refl _ _)).mono ?_
  rintro e u' ⟨rfl, hb2⟩
  have HB : Hid (Below w.heap.size w u') := hb.trans (hb2.mono hb.size)
  clear hr hb hb2 hp
  go_wp2
  go_ret
  exact ⟨rfl, HB.out⟩
end Go.Proofs.YtifcdmiopanedaaDoor
