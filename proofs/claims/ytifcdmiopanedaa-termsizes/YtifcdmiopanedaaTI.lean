/-
  strconv.AppendInt at base 10 over this seat: the shelf's contract laid in plain words; owned bytes and the frame of what appends to them. No statement of the seat is proved here.
-/
import Derived.Shelf.LaysM
import Derived.Shelf.Strconv.AppendIntPublic10
import Derived.Lib.ItoaLen
import Derived.Lib.BufferKept
import Derived.Deep.AppendLies
import Derived.Test.YtifcdmiopanedaaKStr
namespace Go.Proofs.Ytifcdmiopanedaa
open Go.Shelf Go.RowKit
set_option linter.unusedVariables false

def lays176_ren : Go.Shelf.Ren := ⟨fun | 176 => 31 | 249 => 32 | 288 => 33 | 283 => 34 | 284 => 35 | 285 => 36 | 286 => 37 | 129 => 39 | 317 => 38 | 318 => 40 | 319 => 41 | 320 => 42 | 337 => 43 | 338 => 44 | n => n, fun | 37 => 72 | 2 => 2 | 3 => 3 | 53 => 77 | 4 => 4 | 9 => 9 | 171 => 80 | 0 => 0 | 173 => 83 | 212 => 87 | 51 => 62 | 5 => 5 | 20 => 20 | 213 => 88 | 46 => 90 | 232 => 93 | 233 => 94 | n => n, fun | 17 => 0 | 18 => 1 | 19 => 2 | n => n⟩
theorem lays176 : Go.Proofs.LaysM.n176 Try.prog lays176_ren := {
  mixed := by kernel_rfl
  f129 := Try.func39.trans (congrArg some (by kernel_rfl))
  f176 := Try.func31.trans (congrArg some (by kernel_rfl))
  f249 := Try.func32.trans (congrArg some (by kernel_rfl))
  f283 := Try.func34.trans (congrArg some (by kernel_rfl))
  f284 := Try.func35.trans (congrArg some (by kernel_rfl))
  f285 := Try.func36.trans (congrArg some (by kernel_rfl))
  f286 := Try.func37.trans (congrArg some (by kernel_rfl))
  f288 := Try.func33.trans (congrArg some (by kernel_rfl))
  f317 := Try.func38.trans (congrArg some (by kernel_rfl))
  f318 := Try.func40.trans (congrArg some (by kernel_rfl))
  f319 := Try.func41.trans (congrArg some (by kernel_rfl))
  f320 := Try.func42.trans (congrArg some (by kernel_rfl))
  f337 := Try.func43.trans (congrArg some (by kernel_rfl))
  f338 := Try.func44.trans (congrArg some (by kernel_rfl))
  t0 := Try.underlying0
  a0 := Try.isAgg0
  z0 := Try.sizeOf0
  v0 := Try.zeroValue0
  t2 := Try.underlying2
  a2 := Try.isAgg2
  z2 := Try.sizeOf2
  v2 := Try.zeroValue2
  t3 := Try.underlying3
  a3 := Try.isAgg3
  z3 := Try.sizeOf3
  v3 := Try.zeroValue3
  t4 := Try.underlying4
  a4 := Try.isAgg4
  z4 := Try.sizeOf4
  v4 := Try.zeroValue4
  t5 := Try.underlying5
  a5 := Try.isAgg5
  z5 := Try.sizeOf5
  v5 := Try.zeroValue5
  t9 := Try.underlying9
  a9 := Try.isAgg9
  z9 := Try.sizeOf9
  v9 := Try.zeroValue9
  t20 := Try.underlying20
  a20 := Try.isAgg20
  z20 := Try.sizeOf20
  v20 := Try.zeroValue20
  t37 := Try.underlying72
  a37 := Try.isAgg72
  z37 := Try.sizeOf72
  v37 := Try.zeroValue72
  t46 := Try.underlying90
  a46 := Try.isAgg90
  z46 := Try.sizeOf90
  v46 := Try.zeroValue90
  t51 := Try.underlying62
  a51 := Try.isAgg62
  z51 := Try.sizeOf62
  v51 := Try.zeroValue62
  t53 := Try.underlying77
  a53 := Try.isAgg77
  z53 := Try.sizeOf77
  v53 := Try.zeroValue77
  t171 := Try.underlying80
  a171 := Try.isAgg80
  z171 := Try.sizeOf80
  v171 := Try.zeroValue80
  t173 := Try.underlying83
  a173 := Try.isAgg83
  z173 := Try.sizeOf83
  v173 := Try.zeroValue83
  t212 := Try.underlying87
  a212 := Try.isAgg87
  z212 := Try.sizeOf87
  v212 := Try.zeroValue87
  t213 := Try.underlying88
  a213 := Try.isAgg88
  z213 := Try.sizeOf88
  t232 := Try.underlying93
  a232 := Try.isAgg93
  z232 := Try.sizeOf93
  v232 := Try.zeroValue93
  t233 := Try.underlying94
  a233 := Try.isAgg94
  z233 := Try.sizeOf94
  v233 := Try.zeroValue94
  g17 := by kernel_rfl
  g18 := by kernel_rfl
  g19 := by kernel_rfl
  i0 := by kernel_rfl
  i2 := by kernel_rfl
  i3 := by kernel_rfl
  i4 := by kernel_rfl
  i5 := by kernel_rfl
  i9 := by kernel_rfl
  i20 := by kernel_rfl
  i37 := by kernel_rfl
  i46 := by kernel_rfl
  i51 := by kernel_rfl
  i53 := by kernel_rfl
  i171 := by kernel_rfl
  i173 := by kernel_rfl
  i212 := by kernel_rfl
  i232 := by kernel_rfl
  i233 := by kernel_rfl
  m17 := by kernel_rfl
  m18 := by kernel_rfl
  m19 := by kernel_rfl }
/-- What the table of powers of ten holds, whatever is done from block B on. -/
def Tab (B : Nat) (w : World) : Prop := ∀ nm, Try.prog.globalNamed nm = some 0 → Lib.TabBelow Try.prog B w nm .u64 Lib.pow10Tab
theorem Tab.on {B : Nat} {w u : World} (h : Tab B w) (hb : Below B w u) : Tab B u := fun nm hn => (h nm hn).on hb
/-- v is a slice of bytes of the call's own (from block B on): it holds l. -/
def Nm (B : Nat) (u : World) (v : Value) (l : List UInt8) : Prop := u.ownsRow B 5 1 v l.length (Lib.byteCells l)
/-- Below B nothing has turned, and no block but rows of bytes. -/
structure Fr (B : Nat) (w u : World) : Prop where
  bel : Below B w u
  ok : Lib.OthersKept 5 none w u
theorem Fr.refl (B : Nat) (w : World) : Fr B w w := ⟨Below.refl _ _, Lib.OthersKept.refl _ _ _⟩
theorem Fr.drew {B : Nat} {w u : World} (h : Fr B w u) : Fr B w u.drew := ⟨h.bel.trans ⟨rfl, rfl, rfl, Nat.le_refl _, fun _ _ => rfl⟩, h.ok.drew⟩
theorem Fr.trans {B : Nat} {w u x : World} (h : Fr B w u) (k : Fr B u x) : Fr B w x := ⟨h.bel.trans k.bel, h.ok.trans k.ok⟩
theorem Fr.alloc {B : Nat} {w u : World} (h : Fr B w u) (hB : B ≤ w.heap.size) (o : Obj) : Fr B w (u.alloc o) := ⟨h.bel.alloc (Nat.le_trans hB h.bel.size) o, h.ok.alloc o⟩
theorem Fr.below {B : Nat} {w u x : World} (h : Fr B w u) (hB : B ≤ u.heap.size) (k : Below u.heap.size u x) : Fr B w x := ⟨h.bel.trans (k.mono hB), h.ok.below k⟩
theorem Fr.le {B : Nat} {w u : World} (h : Fr B w u) (hB : B ≤ w.heap.size) : B ≤ u.heap.size := Nat.le_trans hB h.bel.size
/-- Block q is a block of other cells than bytes, and holds cs. -/
def Blk (q : Nat) (ty : TypeId) (cs : List Value) (u : World) : Prop := u.heap[q]? = some (.cells cs.toArray ty (0, 0))
theorem Blk.fr {q : Nat} {ty : TypeId} {cs : List Value} {B : Nat} {w u : World} (h : Blk q ty cs w) (hty : ty ≠ 5) (k : Fr B w u) : Blk q ty cs u :=
  k.ok q _ h (by simp) (fun c fz e => hty (by injection e))
theorem Blk.alloc {q : Nat} {ty : TypeId} {cs : List Value} {w : World} (h : Blk q ty cs w) (o : Obj) : Blk q ty cs (w.alloc o) := (Below.heap_alloc w o q (Array.getElem?_eq_some_iff.1 h).1).trans h
theorem Nm.alloc {B : Nat} {w : World} {v : Value} {l : List UInt8} (h : Nm B w v l) (o : Obj) : Nm B (w.alloc o) v l := World.ownsRow.alloc h o
theorem Nm.drew {B : Nat} {w : World} {v : Value} {l : List UInt8} (h : Nm B w v l) : Nm B w.drew v l := World.ownsRow.drew h
theorem Blk.new (w : World) (ty : TypeId) (cs : List Value) : Blk w.heap.size ty cs (w.alloc (.cells cs.toArray ty)) := heap_alloc_new w _
theorem Blk.drew {q : Nat} {ty : TypeId} {cs : List Value} {w : World} (h : Blk q ty cs w) : Blk q ty cs w.drew := h
theorem Blk.cell {q : Nat} {ty : TypeId} {cs : List Value} {w : World} (h : Blk q ty cs w) {o : Nat} {v : Value} (ho : cs[o]? = some v) : w.cell? ⟨q, o, none⟩ = some v := by
  rw [cell_of_row _ _ _ _ _ _ h]; simpa using ho
theorem u8Info : ((Try.prog.info? 5).map fun i => (i.zero, i.size, i.bytes)) = some (some (.int .u8 0), 1, 1) := by kernel_rfl
/-- 'append(name, c)' in a plain region. -/
theorem wpList_ab {ops : Array Oper} {rest : List Oper} {o : Oper} {a : Act} {Q : Exit → Act → World → Prop} 
    (B : Nat) (v : Value) (l : List UInt8) (c : UInt8) (w : World) (hown : Nm B w v l) (hB : B ≤ w.heap.size) (hlim : l.length + 1 ≤ 140737488355328) (hgd : o.guard = none) (s x : Operand) (ho : o.op = .call { callee := .builtin .append, args := #[s, x], argTypes := #[72, 72] }) (hs : a.eval s = v) (hx : a.eval x = .slice (some ⟨w.heap.size, 0, none⟩) 1 1)
    (h : ∀ v' u, Nm B u v' (l ++ [c]) → Fr B w u → wpList Try.prog ops Q rest (a.put o.dst v') u) : wpList Try.prog ops Q (o :: rest) a (w.alloc (.cells #[.int .u8 c.toNat] 5)) := by
  obtain ⟨i0, hi, hz0, hz1, hz2⟩ := info_parts u8Info
  refine wpList_append_own _ hgd s x 72 ho B 5 i0 (.int .u8 0) 1 1 Try.underlying72 hi hz0 hz1 hz2 rfl (by decide) v l.length (Lib.byteCells l) hs (hown.alloc _) ⟨w.heap.size, 0, none⟩ 1 1 [Value.int .u8 c.toNat] hx rfl
    (by intro j u' hj; match j, hj with | 0, hj => simp at hj; subst hj; simp [Addr.add]) (by intro u' hu'; simp at hu'; subst hu'; rfl) (by unfold maxLen; omega) (by omega) (by simp; omega) ?_
  intro v' u h1 h2 _
  refine h v' u ?_ ?_
  · unfold Nm
    rw [List.length_append]
    have e : Lib.byteCells (l ++ [c]) = Lib.byteCells l ++ [Value.int .u8 c.toNat] := by simp [Lib.byteCells]
    rw [e]
    exact h1
  · refine ⟨((Below.refl B w).alloc hB _).grown h2 (by simp; omega) (fun k hk => (hown.lt k hk).1), (((Lib.OthersKept.refl 5 none w).alloc _).grown h2 ?_)⟩
    intro g hg
    rcases (hown.alloc (.cells #[.int .u8 c.toNat] 5)).2 with ⟨rfl, _⟩ | ⟨g', cap, cur, rfl, _, hgg, _⟩
    · simp [Value.ownBlock] at hg
    · simp [Value.ownBlock] at hg
      subst hg
      exact ⟨cur, _, hgg⟩
/-- The same at a step of a region that draws its order, the byte lying in block h. -/
theorem step_ab {ops : Array Oper} {o : Oper} {a : Act} {K : Act → World → Prop} {Q : Exit → Act → World → Prop} {E : Prop}
    (B : Nat) (v : Value) (l : List UInt8) (c : UInt8) (g0 : Nat) (w : World) (hown : Nm B w v l) (hB : B ≤ w.heap.size) (hlim : l.length + 1 ≤ 140737488355328) (hc : w.cell? ⟨g0, 0, none⟩ = some (.int .u8 c.toNat)) (hgd : o.guard = none) (s x : Operand)
    (ho : o.op = .call { callee := .builtin .append, args := #[s, x], argTypes := #[72, 72] }) (hs : a.eval s = v) (hx : a.eval x = .slice (some ⟨g0, 0, none⟩) 1 1)
    (h : ∀ v' u, Nm B u v' (l ++ [c]) → Fr B w u → K (a.put o.dst v') u) : if Region.wanted o (yielded ops a.tmps) = true then Oper.wp Try.prog o a w K Q else E := by
  obtain ⟨i0, hi, hz0, hz1, hz2⟩ := info_parts u8Info
  refine step_append_lies _ hgd s x 72 ho B 5 i0 (.int .u8 0) 1 1 Try.underlying72 hi hz0 hz1 hz2 rfl (by decide) v l.length (Lib.byteCells l) hs hown ⟨g0, 0, none⟩ 1 1 [Value.int .u8 c.toNat] hx rfl
    (by intro j u' hj; match j, hj with | 0, hj => simp at hj; subst hj; simpa [Addr.add] using hc) (by intro u' hu'; simp at hu'; subst hu'; rfl) (by decide) (by unfold maxLen; omega) (by omega) hB _ rfl ?_
  intro g cap u h1 h2 _ _
  refine h _ u ?_ ?_
  · unfold Nm
    rw [List.length_append]
    have e : Lib.byteCells (l ++ [c]) = Lib.byteCells l ++ [Value.int .u8 c.toNat] := by simp [Lib.byteCells]
    rw [e]
    exact h1
  · refine ⟨(Below.refl B w).grown h2 hB (fun k hk => (hown.lt k hk).1), ((Lib.OthersKept.refl 5 none w).grown h2 ?_)⟩
    intro g hg
    rcases hown.2 with ⟨rfl, _⟩ | ⟨g', cap, cur, rfl, _, hgg, _⟩
    · simp [Value.ownBlock] at hg
    · simp [Value.ownBlock] at hg
      subst hg
      exact ⟨cur, _, hgg⟩
set_option maxRecDepth 100000 in
set_option maxHeartbeats 4000000 in
theorem number_c (B : Nat) (i : Int) (h0 : -9223372036854775808 ≤ i) (h1 : i ≤ 9223372036854775807) (sv : Value) (l : List UInt8) (w : World) (hown : Nm B w sv l) (hB : B ≤ w.heap.size) (hlim : l.length + 21 ≤ 140737488355328) (ht : Tab B w) :
    Calls Try.prog 29 #[sv, .int .i64 i] w fun e u => ∃ v', e = .returned v' ∧ Nm B u v' (l ++ Lib.itoa i) ∧ Fr B w u := by
  have hc : Hid (∀ w', w' = w → Calls Try.prog 31 #[sv, .int .i64 i, .int .i64 10] w' fun e u => ∃ v', e = .returned v' ∧ Nm B u v' (l ++ Lib.itoa i) ∧ Fr B w u) := by
    rintro w' rfl
    refine (Any.strconv_AppendInt_10 (P := Try.prog) lays176 B l.length i h0 h1 sv (Lib.byteCells l) w' hown hB hlim (ht _ (by kernel_rfl))).mono ?_
    rintro e u ⟨v', rfl, k1, k2, k3⟩
    refine ⟨v', rfl, ?_, k2, k3⟩
    unfold Nm
    rw [List.length_append, show Lib.byteCells (l ++ Lib.itoa i) = Lib.byteCells l ++ Lib.byteCells (Lib.itoa i) by simp [Lib.byteCells]]
    exact k1
  have hw : IntKind.i64.wrap i = i := by rw [IntKind.wrap_i64]; omega
  clear hown ht
  go_enter Try.func29, Try.ntmps29
  go_wp2_with fail
  refine (hc.out _ rfl).mono ?_
  rintro e u ⟨v', rfl, k1, k2⟩
  have K1 : Hid (Nm B u v' (l ++ Lib.itoa i)) := k1
  have K2 : Hid (Fr B w u) := k2
  clear k1 k2 hc
  go_wp2
  go_ret
  exact ⟨v', rfl, K1.out, K2.out⟩
end Go.Proofs.Ytifcdmiopanedaa
