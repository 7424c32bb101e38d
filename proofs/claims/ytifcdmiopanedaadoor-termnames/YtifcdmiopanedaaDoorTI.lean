/-
  strconv.AppendInt at base 10 over this seat: the shelf's contract laid in plain words; owned bytes and the frame of what appends to them. No statement of the seat is proved here.
-/
import Derived.Shelf.LaysM
import Derived.Shelf.Strconv.AppendIntPublic10
import Derived.Lib.ItoaLen
import Derived.Lib.BufferKept
import Derived.Deep.AppendLies
import Derived.Test.YtifcdmiopanedaaDoorKStr
namespace Go.Proofs.YtifcdmiopanedaaDoor
open Go.Shelf Go.RowKit
set_option linter.unusedVariables false

def lays176_ren : Go.Shelf.Ren := ⟨fun | 176 => 32 | 249 => 33 | 288 => 34 | 283 => 35 | 284 => 36 | 285 => 37 | 286 => 38 | 129 => 40 | 317 => 39 | 318 => 41 | 319 => 42 | 320 => 43 | 337 => 44 | 338 => 45 | n => n, fun | 37 => 69 | 2 => 2 | 3 => 3 | 53 => 75 | 4 => 4 | 9 => 9 | 171 => 77 | 0 => 0 | 173 => 80 | 212 => 84 | 51 => 85 | 5 => 5 | 20 => 20 | 213 => 86 | 46 => 88 | 232 => 91 | 233 => 92 | n => n, fun | 17 => 0 | 18 => 1 | 19 => 2 | n => n⟩
theorem lays176 : Go.Proofs.LaysM.n176 Tryd.prog lays176_ren := {
  mixed := by kernel_rfl
  f129 := Tryd.func40.trans (congrArg some (by kernel_rfl))
  f176 := Tryd.func32.trans (congrArg some (by kernel_rfl))
  f249 := Tryd.func33.trans (congrArg some (by kernel_rfl))
  f283 := Tryd.func35.trans (congrArg some (by kernel_rfl))
  f284 := Tryd.func36.trans (congrArg some (by kernel_rfl))
  f285 := Tryd.func37.trans (congrArg some (by kernel_rfl))
  f286 := Tryd.func38.trans (congrArg some (by kernel_rfl))
  f288 := Tryd.func34.trans (congrArg some (by kernel_rfl))
  f317 := Tryd.func39.trans (congrArg some (by kernel_rfl))
  f318 := Tryd.func41.trans (congrArg some (by kernel_rfl))
  f319 := Tryd.func42.trans (congrArg some (by kernel_rfl))
  f320 := Tryd.func43.trans (congrArg some (by kernel_rfl))
  f337 := Tryd.func44.trans (congrArg some (by kernel_rfl))
  f338 := Tryd.func45.trans (congrArg some (by kernel_rfl))
  t0 := Tryd.underlying0
  a0 := Tryd.isAgg0
  z0 := Tryd.sizeOf0
  v0 := Tryd.zeroValue0
  t2 := Tryd.underlying2
  a2 := Tryd.isAgg2
  z2 := Tryd.sizeOf2
  v2 := Tryd.zeroValue2
  t3 := Tryd.underlying3
  a3 := Tryd.isAgg3
  z3 := Tryd.sizeOf3
  v3 := Tryd.zeroValue3
  t4 := Tryd.underlying4
  a4 := Tryd.isAgg4
  z4 := Tryd.sizeOf4
  v4 := Tryd.zeroValue4
  t5 := Tryd.underlying5
  a5 := Tryd.isAgg5
  z5 := Tryd.sizeOf5
  v5 := Tryd.zeroValue5
  t9 := Tryd.underlying9
  a9 := Tryd.isAgg9
  z9 := Tryd.sizeOf9
  v9 := Tryd.zeroValue9
  t20 := Tryd.underlying20
  a20 := Tryd.isAgg20
  z20 := Tryd.sizeOf20
  v20 := Tryd.zeroValue20
  t37 := Tryd.underlying69
  a37 := Tryd.isAgg69
  z37 := Tryd.sizeOf69
  v37 := Tryd.zeroValue69
  t46 := Tryd.underlying88
  a46 := Tryd.isAgg88
  z46 := Tryd.sizeOf88
  v46 := Tryd.zeroValue88
  t51 := Tryd.underlying85
  a51 := Tryd.isAgg85
  z51 := Tryd.sizeOf85
  v51 := Tryd.zeroValue85
  t53 := Tryd.underlying75
  a53 := Tryd.isAgg75
  z53 := Tryd.sizeOf75
  v53 := Tryd.zeroValue75
  t171 := Tryd.underlying77
  a171 := Tryd.isAgg77
  z171 := Tryd.sizeOf77
  v171 := Tryd.zeroValue77
  t173 := Tryd.underlying80
  a173 := Tryd.isAgg80
  z173 := Tryd.sizeOf80
  v173 := Tryd.zeroValue80
  t212 := Tryd.underlying84
  a212 := Tryd.isAgg84
  z212 := Tryd.sizeOf84
  v212 := Tryd.zeroValue84
  t213 := Tryd.underlying86
  a213 := Tryd.isAgg86
  z213 := Tryd.sizeOf86
  t232 := Tryd.underlying91
  a232 := Tryd.isAgg91
  z232 := Tryd.sizeOf91
  v232 := Tryd.zeroValue91
  t233 := Tryd.underlying92
  a233 := Tryd.isAgg92
  z233 := Tryd.sizeOf92
  v233 := Tryd.zeroValue92
  g17 := by kernel_rfl
  g18 := by kernel_rfl
  g19 := by kernel_rfl
  i0 := by kernel_rfl
  i2 := by kernel_rfl
  i3 := by kernel_rfl
  i4 := by kernel_rfl
  i5 := by kernel_rfl
  i9 := by kernel_rfl
  i20 := by kernel_rfl
  i37 := by kernel_rfl
  i46 := by kernel_rfl
  i51 := by kernel_rfl
  i53 := by kernel_rfl
  i171 := by kernel_rfl
  i173 := by kernel_rfl
  i212 := by kernel_rfl
  i232 := by kernel_rfl
  i233 := by kernel_rfl
  m17 := by kernel_rfl
  m18 := by kernel_rfl
  m19 := by kernel_rfl }
/-- What the table of powers of ten holds, whatever is done from block B on. -/
def Tab (B : Nat) (w : World) : Prop := ∀ nm, Tryd.prog.globalNamed nm = some 0 → Lib.TabBelow Tryd.prog B w nm .u64 Lib.pow10Tab
theorem Tab.on {B : Nat} {w u : World} (h : Tab B w) (hb : Below B w u) : Tab B u := fun nm hn => (h nm hn).on hb
/-- v is a slice of bytes of the call's own (from block B on): it holds l. -/
def Nm (B : Nat) (u : World) (v : Value) (l : List UInt8) : Prop := u.ownsRow B 5 1 v l.length (Lib.byteCells l)
/-- Below B nothing has turned, and no block but rows of bytes. -/
structure Fr (B : Nat) (w u : World) : Prop where
  bel : Below B w u
  ok : Lib.OthersKept 5 none w u
theorem Fr.refl (B : Nat) (w : World) : Fr B w w := ⟨Below.refl _ _, Lib.OthersKept.refl _ _ _⟩
theorem Fr.drew {B : Nat} {w u : World} (h : Fr B w u) : Fr B w u.drew := ⟨h.bel.trans ⟨rfl, rfl, rfl, Nat.le_refl _, fun _ _ => rfl⟩, h.ok.drew⟩
theorem Fr.trans {B : Nat} {w u x : World} (h : Fr B w u) (k : Fr B u x) : Fr B w x := ⟨h.bel.trans k.bel, h.ok.trans k.ok⟩
theorem Fr.alloc {B : Nat} {w u : World} (h : Fr B w u) (hB : B ≤ w.heap.size) (o : Obj) : Fr B w (u.alloc o) := ⟨h.bel.alloc (Nat.le_trans hB h.bel.size) o, h.ok.alloc o⟩
theorem Fr.below {B : Nat} {w u x : World} (h : Fr B w u) (hB : B ≤ u.heap.size) (k : Below u.heap.size u x) : Fr B w x := ⟨h.bel.trans (k.mono hB), h.ok.below k⟩
theorem Fr.le {B : Nat} {w u : World} (h : Fr B w u) (hB : B ≤ w.heap.size) : B ≤ u.heap.size := Nat.le_trans hB h.bel.size
/-- Block q is a block of other cells than bytes, and holds cs. -/
def Blk (q : Nat) (ty : TypeId) (cs : List Value) (u : World) : Prop := u.heap[q]? = some (.cells cs.toArray ty (0, 0))
theorem Blk.fr {q : Nat} {ty : TypeId} {cs : List Value} {B : Nat} {w u : World} (h : Blk q ty cs w) (hty : ty ≠ 5) (k : Fr B w u) : Blk q ty cs u :=
  k.ok q _ h (by simp) (fun c fz e => hty (by injection e))
theorem Blk.alloc {q : Nat} {ty : TypeId} {cs : List Value} {w : World} (h : Blk q ty cs w) (o : Obj) : Blk q ty cs (w.alloc o) := (Below.heap_alloc w o q (Array.getElem?_eq_some_iff.1 h).1).trans h
theorem Nm.alloc {B : Nat} {w : World} {v : Value} {l : List UInt8} (h : Nm B w v l) (o : Obj) : Nm B (w.alloc o) v l := World.ownsRow.alloc h o
theorem Nm.drew {B : Nat} {w : World} {v : Value} {l : List UInt8} (h : Nm B w v l) : Nm B w.drew v l := World.ownsRow.drew h
theorem Blk.new (w : World) (ty : TypeId) (cs : List Value) : Blk w.heap.size ty cs (w.alloc (.cells cs.toArray ty)) := heap_alloc_new w _
theorem Blk.drew {q : Nat} {ty : TypeId} {cs : List Value} {w : World} (h : Blk q ty cs w) : Blk q ty cs w.drew := h
theorem Blk.cell {q : Nat} {ty : TypeId} {cs : List Value} {w : World} (h : Blk q ty cs w) {o : Nat} {v : Value} (ho : cs[o]? = some v) : w.cell? ⟨q, o, none⟩ = some v := by
  rw [cell_of_row _ _ _ _ _ _ h]; simpa using ho
theorem u8Info : ((Tryd.prog.info? 5).map fun i => (i.zero, i.size, i.bytes)) = some (some (.int .u8 0), 1, 1) := by kernel_rfl
/-- 'append(name, c)' in a plain region. -/
theorem wpList_ab {ops : Array Oper} {rest : List Oper} {o : Oper} {a : Act} {Q : Exit → Act → World → Prop} 
    (B : Nat) (v : Value) (l : List UInt8) (c : UInt8) (w : World) (hown : Nm B w v l) (hB : B ≤ w.heap.size) (hlim : l.length + 1 ≤ 140737488355328) (hgd : o.guard = none) (s x : Operand) (ho : o.op = .call { callee := .builtin .append, args := #[s, x], argTypes := #[69, 69] }) (hs : a.eval s = v) (hx : a.eval x = .slice (some ⟨w.heap.size, 0, none⟩) 1 1)
    (h : ∀ v' u, Nm B u v' (l ++ [c]) → Fr B w u → wpList Tryd.prog ops Q rest (a.put o.dst v') u) : wpList Tryd.prog ops Q (o :: rest) a (w.alloc (.cells #[.int .u8 c.toNat] 5)) := by
  obtain ⟨i0, hi, hz0, hz1, hz2⟩ := info_parts u8Info
  refine wpList_append_own _ hgd s x 69 ho B 5 i0 (.int .u8 0) 1 1 Tryd.underlying69 hi hz0 hz1 hz2 rfl (by decide) v l.length (Lib.byteCells l) hs (hown.alloc _) ⟨w.heap.size, 0, none⟩ 1 1 [Value.int .u8 c.toNat] hx rfl
    (by intro j u' hj; match j, hj with | 0, hj => simp at hj; subst hj; simp [Addr.add]) (by intro u' hu'; simp at hu'; subst hu'; rfl) (by unfold maxLen; omega) (by omega) (by simp; omega) ?_
  intro v' u h1 h2 _
  refine h v' u ?_ ?_
  · unfold Nm
    rw [List.length_append]
    have e : Lib.byteCells (l ++ [c]) = Lib.byteCells l ++ [Value.int .u8 c.toNat] := by simp [Lib.byteCells]
    rw [e]
    exact h1
  · refine ⟨((Below.refl B w).alloc hB _).grown h2 (by simp; omega) (fun k hk => (hown.lt k hk).1), (((Lib.OthersKept.refl 5 none w).alloc _).grown h2 ?_)⟩
    intro g hg
    rcases (hown.alloc (.cells #[.int .u8 c.toNat] 5)).2 with ⟨rfl, _⟩ | ⟨g', cap, cur, rfl, _, hgg, _⟩
    · simp [Value.ownBlock] at hg
    · simp [Value.ownBlock] at hg
      subst hg
      exact ⟨cur, _, hgg⟩
/-- The same at a step of a region that draws its order, the byte lying in block h. -/
theorem step_ab {ops : Array Oper} {o : Oper} {a : Act} {K : Act → World → Prop} {Q : Exit → Act → World → Prop} {E : Prop}
    (B : Nat) (v : Value) (l : List UInt8) (c : UInt8) (g0 : Nat) (w : World) (hown : Nm B w v l) (hB : B ≤ w.heap.size) (hlim : l.length + 1 ≤ 140737488355328) (hc : w.cell? ⟨g0, 0, none⟩ = some (.int .u8 c.toNat)) (hgd : o.guard = none) (s x : Operand)
    (ho : o.op = .call { callee := .builtin .append, args := #[s, x], argTypes := #[69, 69] }) (hs : a.eval s = v) (hx : a.eval x = .slice (some ⟨g0, 0, none⟩) 1 1)
    (h : ∀ v' u, Nm B u v' (l ++ [c]) → Fr B w u → K (a.put o.dst v') u) : if Region.wanted o (yielded ops a.tmps) = true then Oper.wp Tryd.prog o a w K Q else E := by
  obtain ⟨i0, hi, hz0, hz1, hz2⟩ := info_parts u8Info
  refine step_append_lies _ hgd s x 69 ho B 5 i0 (.int .u8 0) 1 1 Tryd.underlying69 hi hz0 hz1 hz2 rfl (by decide) v l.length (Lib.byteCells l) hs hown ⟨g0, 0, none⟩ 1 1 [Value.int .u8 c.toNat] hx rfl
    (by intro j u' hj; match j, hj with | 0, hj => simp at hj; subst hj; simpa [Addr.add] using hc) (by intro u' hu'; simp at hu'; subst hu'; rfl) (by decide) (by unfold maxLen; omega) (by omega) hB _ rfl ?_
  intro g cap u h1 h2 _ _
  refine h _ u ?_ ?_
  · unfold Nm
    rw [List.length_append]
    have e : Lib.byteCells (l ++ [c]) = Lib.byteCells l ++ [Value.int .u8 c.toNat] := by simp [Lib.byteCells]
    rw [e]
    exact h1
  · refine ⟨(Below.refl B w).grown h2 hB (fun k hk => (hown.lt k hk).1), ((Lib.OthersKept.refl 5 none w).grown h2 ?_)⟩
    intro g hg
    rcases hown.2 with ⟨rfl, _⟩ | ⟨g', cap, cur, rfl, _, hgg, _⟩
    · simp [Value.ownBlock] at hg
    · simp [Value.ownBlock] at hg
      subst hg
      exact ⟨cur, _, hgg⟩
set_option maxRecDepth 100000 in
set_option maxHeartbeats 4000000 in
theorem number_c (B : Nat) (i : Int) (h0 : -9223372036854775808 ≤ i) (h1 : i ≤ 9223372036854775807) (sv : Value) (l : List UInt8) (w : World) (hown : Nm B w sv l) (hB : B ≤ w.heap.size) (hlim : l.length + 21 ≤ 140737488355328) (ht : Tab B w) :
    Calls Tryd.prog 29 #[sv, .int .i64 i] w fun e u => ∃ v', e = .returned v' ∧ Nm B u v' (l ++ Lib.itoa i) ∧ Fr B w u := by
  have hc : Hid (∀ w', w' = w → Calls Tryd.prog 32 #[sv, .int .i64 i, .int .i64 10] w' fun e u => ∃ v', e = .returned v' ∧ Nm B u v' (l ++ Lib.itoa i) ∧ Fr B w u) := by
    rintro w' rfl
    refine (Any.strconv_AppendInt_10 (P := Tryd.prog) lays176 B l.length i h0 h1 sv (Lib.byteCells l) w' hown hB hlim (ht _ (by kernel_rfl))).mono ?_
    rintro e u ⟨v', rfl, k1, k2, k3⟩
    refine ⟨v', rfl, ?_, k2, k3⟩
    unfold Nm
    rw [List.length_append, show Lib.byteCells (l ++ Lib.itoa i) = Lib.byteCells l ++ Lib.byteCells (Lib.itoa i) by simp [Lib.byteCells]]
    exact k1
  have hw : IntKind.i64.wrap i = i := by rw [IntKind.wrap_i64]; omega
  clear hown ht
  go_enter Tryd.func29, Tryd.ntmps29
  go_wp2_with fail
  refine (hc.out _ rfl).mono ?_
  rintro e u ⟨v', rfl, k1, k2⟩
  have K1 : Hid (Nm B u v' (l ++ Lib.itoa i)) := k1
  have K2 : Hid (Fr B w u) := k2
  clear k1 k2 hc
  go_wp2
  go_ret
  exact ⟨v', rfl, K1.out, K2.out⟩
end Go.Proofs.YtifcdmiopanedaaDoor
