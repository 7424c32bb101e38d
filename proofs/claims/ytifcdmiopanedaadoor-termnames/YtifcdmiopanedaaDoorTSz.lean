/-
  What term's uncounted and Size answer. No statement of the seat is proved here.
-/
import Derived.Test.YtifcdmiopanedaaDoorKStr
import Derived.Test.YtifcdmiopanedaaDoorTVal
import Derived.Lib.Hide
namespace Go.Proofs.YtifcdmiopanedaaDoor
open Go.RowKit
set_option linter.unusedVariables false
set_option linter.unusedSimpArgs false

def BlS (q : Nat) (cs : List Value) (u : World) : Prop := u.heap[q]? = some (.cells cs.toArray 29 (0, 0))
theorem BlS.new (w : World) (cs : List Value) : BlS w.heap.size cs (w.alloc (.cells cs.toArray 29)) := heap_alloc_new w _
theorem BlS.later {q : Nat} {cs : List Value} {w u : World} (h : BlS q cs w) (hb : Below w.heap.size w u) : BlS q cs u := (hb.block q (Array.getElem?_eq_some_iff.1 h).1).trans h
theorem BlS.cell {q : Nat} {cs : List Value} {w : World} (h : BlS q cs w) {o : Nat} {v : Value} (ho : cs[o]? = some v) : w.cell? ⟨q, o, none⟩ = some v := by
  rw [cell_of_row _ _ _ _ _ _ h]; simpa using ho
/-- What is left of x behind s. -/
def lf (x : Int) (s : Nat) : Int := if x ≤ s then 0 else x - s
/-- uncounted, over parts that hold s terms. -/
def Unc (vs : List Value) (s : Nat) : Prop := ∀ (n : Nat) (x : Int) (q : Nat) (w : World), n = vs.length → 0 ≤ x → x ≤ 10000 → BlS q vs w → Calls Tryd.prog 23 #[.int .i64 x, .slice (some ⟨q, 0, none⟩) n n] w fun e u => ∃ r : Int, e = .returned (.int .i64 r) ∧ 0 ≤ r ∧ r ≤ 10000 ∧ Hid (r = lf x s) ∧ Hid (Below w.heap.size w u)
/-- A part in which s terms stand. -/
def Cs (v : Value) (s : Nat) : Prop :=
  (s = 1 ∧ (∀ w, Sem.run Tryd.prog (Instr.typeAssert v 29 33 true) w = .ok (.tuple #[.agg #[.int .i64 0, .nilIface, .nilIface], .bool false]) w) ∧ (∀ w, Sem.run Tryd.prog (Instr.typeAssert v 29 39 true) w = .ok (.tuple #[.agg #[.nilIface, .nilIface], .bool false]) w) ∧ (∀ w, Sem.run Tryd.prog (Instr.typeAssert v 29 31 true) w = .ok (.tuple #[.agg #[.nilIface, .int .i64 0, .nilIface, .nilIface], .bool false]) w)) ∨
  (∃ n tx vx ty vy s', v = .iface 33 (.agg #[.int .i64 n, .iface tx vx, .iface ty vy]) ∧ s = s' + 1 ∧ Unc [.iface tx vx, .iface ty vy] s') ∨
  (∃ n tx vx s', v = .iface 33 (.agg #[.int .i64 n, .iface tx vx, .nilIface]) ∧ s = s' + 1 ∧ Unc [.iface tx vx, .nilIface] s') ∨
  (∃ tx vx ty vy s', v = .iface 39 (.agg #[.iface tx vx, .iface ty vy]) ∧ s = s' + 1 ∧ Unc [.iface tx vx, .iface ty vy] s') ∨
  (∃ n tx vx ty vy tz vz s', v = .iface 31 (.agg #[.iface tx vx, .int .i64 n, .iface ty vy, .iface tz vz]) ∧ s = s' + 1 ∧ Unc [.iface tx vx, .iface ty vy, .iface tz vz] s')
def sz (ss : List Nat) : Nat → Nat
  | 0 => 0
  | k + 1 => sz ss k + ss[k]?.getD 0
theorem sz_le (ss : List Nat) {k n : Nat} (h : k ≤ n) : sz ss k ≤ sz ss n := by
  induction n with
  | zero => rw [Nat.le_zero.1 h]; exact Nat.le_refl _
  | succ n ih =>
    by_cases e : k = n + 1
    · rw [e]; exact Nat.le_refl _
    · have := ih (by omega)
      show _ ≤ sz ss n + _
      omega
theorem below_alloc_new {w u : World} {o : Obj} (h : Below (w.alloc o).heap.size (w.alloc o) u) : Below w.heap.size (w) u := (bel1 w o).trans (h.mono (bel1 w o).size)
theorem sum_next {x y r : Int} {a b : Nat} (h1 : y = lf x a) (h2 : ¬ y = 0) (h3 : r = lf (y - 1) b) : r = lf x (a + (b + 1)) := by
  unfold lf at *
  by_cases c : x ≤ a
  · rw [if_pos c] at h1; exact absurd h1 h2
  · rw [if_neg c] at h1
    subst h1
    rw [h3]
    by_cases d : x - a - 1 ≤ b
    · rw [if_pos d, if_pos (by omega)]
    · rw [if_neg d, if_neg (by omega)]; omega
set_option maxRecDepth 8000 in
set_option maxHeartbeats 4000000 in
theorem unc_c (vs : List Value) (ss : List Nat) (hl : vs.length = ss.length) (hv : ∀ (j : Nat) (v : Value) (s : Nat), vs[j]? = some v → ss[j]? = some s → Cs v s) (hs : vs.length ≤ 1000) : Unc vs (sz ss vs.length) := by
  intro n x q w hn x0 x1 hbl
  have HV : Hid (∀ (j : Nat) (v : Value) (s : Nat), vs[j]? = some v → ss[j]? = some s → Cs v s) := hv
  have HL : Hid (vs.length = ss.length) := hl
  have HBL : Hid (BlS q vs w) := hbl
  have H0 : Hid (x = lf x (sz ss 0)) := by unfold Hid lf; show x = if x ≤ ((0 : Nat) : Int) then 0 else x - ((0 : Nat) : Int); by_cases c : x ≤ 0 <;> simp [c] <;> omega
  have HN : Hid (n = vs.length) := hn
  rw [← hn] at hs
  rw [← hn]
  clear hv hl hbl hn
  go_enter Tryd.func23, Tryd.ntmps23
  go_wp2
  go_loopw [0, 12] (fun s0 i wr => ∃ (k : Nat) (y : Int), k ≤ n ∧ i = .int .i64 k ∧ s0 = .int .i64 y ∧ 0 ≤ y ∧ y ≤ 10000 ∧ Hid (y = lf x (sz ss k)) ∧ Hid (Below w.heap.size w wr)) (fun _ i _ => n - (intOf i).toNat)
  case atStart => exact ⟨0, x, Nat.zero_le _, rfl, rfl, x0, x1, H0, Below.refl _ _⟩
  case round =>
    clear H0
    obtain ⟨k, y, hk, rfl, rfl, y0, y1, HY, HB2⟩ := hrel
    by_cases hlt : k < n
    · have c1 : (k : Int) < n := by omega
      have hkv : k < vs.length := by have := HN.out; omega
      have hkl : k < ss.length := by have := HL.out; omega
      obtain ⟨v, hvk⟩ : ∃ v, vs[k]? = some v := ⟨_, List.getElem?_eq_getElem hkv⟩
      obtain ⟨s1, hlk⟩ : ∃ l, ss[k]? = some l := ⟨_, List.getElem?_eq_getElem hkl⟩
      have hC : Hid (Cs v s1) := HV.out k v s1 hvk hlk
      have hcell := (HBL.out.later HB2.out).cell hvk
      have hs1 : Hid (ss[k]?.getD 0 = s1) := by unfold Hid; rw [hlk]; rfl
      clear hvk hlk hkv hkl
      by_cases c2 : y = 0
      · have HE : Hid (0 = lf x (sz ss n)) := by
          have e2 := HY.out
          have h1 := sz_le ss hk
          unfold Hid lf at *
          rw [c2] at e2
          by_cases c : x ≤ (sz ss k : Int)
          · rw [if_pos (by omega)]
          · rw [if_neg c] at e2; omega
        clear HY hC
        go_wp2
        go_ret
        exact ⟨0, rfl, by omega, by omega, HE, HB2⟩
      · have hw : IntKind.i64.wrap (y - 1) = y - 1 := by rw [IntKind.wrap_i64]; omega
        have hE : ∀ (r : Int) (s' : Nat), s1 = s' + 1 → r = lf (y - 1) s' → Hid (r = lf x (sz ss (k + 1))) := by
          intro r s' h1 h2
          unfold Hid
          show r = lf x (sz ss k + ss[k]?.getD 0)
          rw [hs1.out, h1]
          exact sum_next HY.out c2 h2
        have HEE : Hid (∀ (r : Int) (s' : Nat), s1 = s' + 1 → r = lf (y - 1) s' → Hid (r = lf x (sz ss (k + 1)))) := hE
        clear hE hs1 HY
        rcases hC.out with ⟨e1, fC, fD, fB⟩ | ⟨m, tx, vx, ty, vy, s', rfl, e1, hU'⟩ | ⟨m, tx, vx, s', rfl, e1, hU'⟩ | ⟨tx, vx, ty, vy, s', rfl, e1, hU'⟩ | ⟨m, tx, vx, ty, vy, tz, vz, s', rfl, e1, hU'⟩
        · have HR : Hid (y - 1 = lf x (sz ss (k + 1))) := HEE.out (y - 1) 0 e1 (by unfold lf; by_cases c : y - 1 ≤ 0 <;> simp [c] <;> omega)
          clear hC HEE
          go_wp2
          go_roundw
          case rel => exact ⟨k + 1, y - 1, by omega, by go_num, rfl, by omega, by omega, HR, HB2⟩
          case measure => simp [intOf]; omega
        · have HU : Hid (Unc [.iface tx vx, .iface ty vy] s') := hU'
          have E1 : Hid (s1 = s' + 1) := e1
          have fChain := as_Chain_Chain (.agg #[.int .i64 m, .iface tx vx, .iface ty vy])
          have k1 : (wr.alloc (.cells #[.int .i64 m, .iface tx vx, .iface ty vy] 33)).cell? ⟨wr.heap.size, 1, none⟩ = some (.iface tx vx) := by rw [cell_of_row _ _ _ _ _ _ (heap_alloc_new wr _)]; rfl
          have k2 : (wr.alloc (.cells #[.int .i64 m, .iface tx vx, .iface ty vy] 33)).cell? ⟨wr.heap.size, 2, none⟩ = some (.iface ty vy) := by rw [cell_of_row _ _ _ _ _ _ (heap_alloc_new wr _)]; rfl
          have HQ : Hid (Below w.heap.size w (wr.alloc (.cells #[.int .i64 m, .iface tx vx, .iface ty vy] 33))) := HB2.out.trans ((bel1 wr _).mono HB2.out.size)
          have hq1 : (wr.alloc (.cells #[.int .i64 m, .iface tx vx, .iface ty vy] 33)).heap.size = wr.heap.size + 1 := by simp
          have HBS : Hid (BlS (wr.heap.size + 1) [.iface tx vx, .iface ty vy] ((wr.alloc (.cells #[.int .i64 m, .iface tx vx, .iface ty vy] 33)).alloc (.cells #[.iface tx vx, .iface ty vy] 29))) := by have h := BlS.new (wr.alloc (.cells #[.int .i64 m, .iface tx vx, .iface ty vy] 33)) [.iface tx vx, .iface ty vy]; rw [hq1] at h; exact h
          clear hC hU' e1 hq1
          go_wp2_with fail
          refine (HU.out 2 (y - 1) (wr.heap.size + 1) _ rfl (by omega) (by omega) HBS.out).mono ?_
          rintro e u ⟨r, rfl, r0, r1, hr, hb⟩
          have HB3 : Hid (Below w.heap.size w u) := HQ.out.trans ((below_alloc_new hb.out).mono HQ.out.size)
          have HR : Hid (r = lf x (sz ss (k + 1))) := HEE.out r s' E1.out hr.out
          clear hb hr HU HB2 HQ E1 HEE hcell HBS k1 k2 fChain
          go_wp2
          go_roundw
          case rel => exact ⟨k + 1, r, by omega, by go_num, rfl, r0, r1, HR, HB3⟩
          case measure => simp [intOf]; omega
        · have HU : Hid (Unc [.iface tx vx, .nilIface] s') := hU'
          have E1 : Hid (s1 = s' + 1) := e1
          have fChain := as_Chain_Chain (.agg #[.int .i64 m, .iface tx vx, .nilIface])
          have k1 : (wr.alloc (.cells #[.int .i64 m, .iface tx vx, .nilIface] 33)).cell? ⟨wr.heap.size, 1, none⟩ = some (.iface tx vx) := by rw [cell_of_row _ _ _ _ _ _ (heap_alloc_new wr _)]; rfl
          have k2 : (wr.alloc (.cells #[.int .i64 m, .iface tx vx, .nilIface] 33)).cell? ⟨wr.heap.size, 2, none⟩ = some (.nilIface) := by rw [cell_of_row _ _ _ _ _ _ (heap_alloc_new wr _)]; rfl
          have HQ : Hid (Below w.heap.size w (wr.alloc (.cells #[.int .i64 m, .iface tx vx, .nilIface] 33))) := HB2.out.trans ((bel1 wr _).mono HB2.out.size)
          have hq1 : (wr.alloc (.cells #[.int .i64 m, .iface tx vx, .nilIface] 33)).heap.size = wr.heap.size + 1 := by simp
          have HBS : Hid (BlS (wr.heap.size + 1) [.iface tx vx, .nilIface] ((wr.alloc (.cells #[.int .i64 m, .iface tx vx, .nilIface] 33)).alloc (.cells #[.iface tx vx, .nilIface] 29))) := by have h := BlS.new (wr.alloc (.cells #[.int .i64 m, .iface tx vx, .nilIface] 33)) [.iface tx vx, .nilIface]; rw [hq1] at h; exact h
          clear hC hU' e1 hq1
          go_wp2_with fail
          refine (HU.out 2 (y - 1) (wr.heap.size + 1) _ rfl (by omega) (by omega) HBS.out).mono ?_
          rintro e u ⟨r, rfl, r0, r1, hr, hb⟩
          have HB3 : Hid (Below w.heap.size w u) := HQ.out.trans ((below_alloc_new hb.out).mono HQ.out.size)
          have HR : Hid (r = lf x (sz ss (k + 1))) := HEE.out r s' E1.out hr.out
          clear hb hr HU HB2 HQ E1 HEE hcell HBS k1 k2 fChain
          go_wp2
          go_roundw
          case rel => exact ⟨k + 1, r, by omega, by go_num, rfl, r0, r1, HR, HB3⟩
          case measure => simp [intOf]; omega
        · have HU : Hid (Unc [.iface tx vx, .iface ty vy] s') := hU'
          have E1 : Hid (s1 = s' + 1) := e1
          have fChain := as_Digest_Chain (.agg #[.iface tx vx, .iface ty vy])
          have fDigest := as_Digest_Digest (.agg #[.iface tx vx, .iface ty vy])
          have k0 : (wr.alloc (.cells #[.iface tx vx, .iface ty vy] 39)).cell? ⟨wr.heap.size, 0, none⟩ = some (.iface tx vx) := by rw [cell_of_row _ _ _ _ _ _ (heap_alloc_new wr _)]; rfl
          have k1 : (wr.alloc (.cells #[.iface tx vx, .iface ty vy] 39)).cell? ⟨wr.heap.size, 1, none⟩ = some (.iface ty vy) := by rw [cell_of_row _ _ _ _ _ _ (heap_alloc_new wr _)]; rfl
          have HQ : Hid (Below w.heap.size w (wr.alloc (.cells #[.iface tx vx, .iface ty vy] 39))) := HB2.out.trans ((bel1 wr _).mono HB2.out.size)
          have hq1 : (wr.alloc (.cells #[.iface tx vx, .iface ty vy] 39)).heap.size = wr.heap.size + 1 := by simp
          have HBS : Hid (BlS (wr.heap.size + 1) [.iface tx vx, .iface ty vy] ((wr.alloc (.cells #[.iface tx vx, .iface ty vy] 39)).alloc (.cells #[.iface tx vx, .iface ty vy] 29))) := by have h := BlS.new (wr.alloc (.cells #[.iface tx vx, .iface ty vy] 39)) [.iface tx vx, .iface ty vy]; rw [hq1] at h; exact h
          clear hC hU' e1 hq1
          go_wp2_with fail
          refine (HU.out 2 (y - 1) (wr.heap.size + 1) _ rfl (by omega) (by omega) HBS.out).mono ?_
          rintro e u ⟨r, rfl, r0, r1, hr, hb⟩
          have HB3 : Hid (Below w.heap.size w u) := HQ.out.trans ((below_alloc_new hb.out).mono HQ.out.size)
          have HR : Hid (r = lf x (sz ss (k + 1))) := HEE.out r s' E1.out hr.out
          clear hb hr HU HB2 HQ E1 HEE hcell HBS k0 k1 fChain fDigest
          go_wp2
          go_roundw
          case rel => exact ⟨k + 1, r, by omega, by go_num, rfl, r0, r1, HR, HB3⟩
          case measure => simp [intOf]; omega
        · have HU : Hid (Unc [.iface tx vx, .iface ty vy, .iface tz vz] s') := hU'
          have E1 : Hid (s1 = s' + 1) := e1
          have fChain := as_Box_Chain (.agg #[.iface tx vx, .int .i64 m, .iface ty vy, .iface tz vz])
          have fDigest := as_Box_Digest (.agg #[.iface tx vx, .int .i64 m, .iface ty vy, .iface tz vz])
          have fBox := as_Box_Box (.agg #[.iface tx vx, .int .i64 m, .iface ty vy, .iface tz vz])
          have k0 : (wr.alloc (.cells #[.iface tx vx, .int .i64 m, .iface ty vy, .iface tz vz] 31)).cell? ⟨wr.heap.size, 0, none⟩ = some (.iface tx vx) := by rw [cell_of_row _ _ _ _ _ _ (heap_alloc_new wr _)]; rfl
          have k2 : (wr.alloc (.cells #[.iface tx vx, .int .i64 m, .iface ty vy, .iface tz vz] 31)).cell? ⟨wr.heap.size, 2, none⟩ = some (.iface ty vy) := by rw [cell_of_row _ _ _ _ _ _ (heap_alloc_new wr _)]; rfl
          have k3 : (wr.alloc (.cells #[.iface tx vx, .int .i64 m, .iface ty vy, .iface tz vz] 31)).cell? ⟨wr.heap.size, 3, none⟩ = some (.iface tz vz) := by rw [cell_of_row _ _ _ _ _ _ (heap_alloc_new wr _)]; rfl
          have HQ : Hid (Below w.heap.size w (wr.alloc (.cells #[.iface tx vx, .int .i64 m, .iface ty vy, .iface tz vz] 31))) := HB2.out.trans ((bel1 wr _).mono HB2.out.size)
          have hq1 : (wr.alloc (.cells #[.iface tx vx, .int .i64 m, .iface ty vy, .iface tz vz] 31)).heap.size = wr.heap.size + 1 := by simp
          have HBS : Hid (BlS (wr.heap.size + 1) [.iface tx vx, .iface ty vy, .iface tz vz] ((wr.alloc (.cells #[.iface tx vx, .int .i64 m, .iface ty vy, .iface tz vz] 31)).alloc (.cells #[.iface tx vx, .iface ty vy, .iface tz vz] 29))) := by have h := BlS.new (wr.alloc (.cells #[.iface tx vx, .int .i64 m, .iface ty vy, .iface tz vz] 31)) [.iface tx vx, .iface ty vy, .iface tz vz]; rw [hq1] at h; exact h
          clear hC hU' e1 hq1
          go_wp2_with fail
          refine (HU.out 3 (y - 1) (wr.heap.size + 1) _ rfl (by omega) (by omega) HBS.out).mono ?_
          rintro e u ⟨r, rfl, r0, r1, hr, hb⟩
          have HB3 : Hid (Below w.heap.size w u) := HQ.out.trans ((below_alloc_new hb.out).mono HQ.out.size)
          have HR : Hid (r = lf x (sz ss (k + 1))) := HEE.out r s' E1.out hr.out
          clear hb hr HU HB2 HQ E1 HEE hcell HBS k0 k2 k3 fChain fDigest fBox
          go_wp2
          go_roundw
          case rel => exact ⟨k + 1, r, by omega, by go_num, rfl, r0, r1, HR, HB3⟩
          case measure => simp [intOf]; omega
    · have e : k = n := by omega
      subst e
      go_wp2
      go_ret
      exact ⟨y, rfl, y0, y1, HY, HB2⟩
theorem unc2 {v1 v2 : Value} {s1 s2 : Nat} (h1 : Cs v1 s1) (h2 : Cs v2 s2) : Unc [v1, v2] (s1 + s2) := by
  have h := unc_c [v1, v2] [s1, s2] rfl (by intro j v l h3 h4; match j with | 0 => simp at h3 h4; subst h3 h4; exact h1 | 1 => simp at h3 h4; subst h3 h4; exact h2 | j + 2 => simp at h3) (by simp)
  have e : sz [s1, s2] [v1, v2].length = s1 + s2 := by show 0 + s1 + s2 = _; omega
  rw [e] at h; exact h
theorem unc3 {v1 v2 v3 : Value} {s1 s2 s3 : Nat} (h1 : Cs v1 s1) (h2 : Cs v2 s2) (h3 : Cs v3 s3) : Unc [v1, v2, v3] (s1 + s2 + s3) := by
  have h := unc_c [v1, v2, v3] [s1, s2, s3] rfl (by intro j v l h5 h4; match j with | 0 => simp at h5 h4; subst h5 h4; exact h1 | 1 => simp at h5 h4; subst h5 h4; exact h2 | 2 => simp at h5 h4; subst h5 h4; exact h3 | j + 3 => simp at h5) (by simp)
  have e : sz [s1, s2, s3] [v1, v2, v3].length = s1 + s2 + s3 := by show 0 + s1 + s2 + s3 = _; omega
  rw [e] at h; exact h
theorem unc1 {v1 : Value} {s1 : Nat} (h1 : Cs v1 s1) : Unc [v1] s1 := by
  have h := unc_c [v1] [s1] rfl (by intro j v l h3 h4; match j with | 0 => simp at h3 h4; subst h3 h4; exact h1 | j + 1 => simp at h3) (by simp)
  have e : sz [s1] [v1].length = s1 := by show 0 + s1 = _; omega
  rw [e] at h; exact h
theorem cs_nil : Cs .nilIface 1 := .inl ⟨rfl, as_nil_Chain, as_nil_Digest, as_nil_Box⟩
theorem cs_chain (n : Int) {tx : TypeId} {vx : Value} {ty : TypeId} {vy : Value} {sx sy : Nat} (h1 : Cs (.iface tx vx) sx) (h2 : Cs (.iface ty vy) sy) : Cs (.iface 33 (.agg #[.int .i64 n, .iface tx vx, .iface ty vy])) (sx + sy + 1) := .inr (.inl ⟨n, tx, vx, ty, vy, _, rfl, rfl, unc2 h1 h2⟩)
theorem cs_chainNil (n : Int) {tx : TypeId} {vx : Value} {sx : Nat} (h1 : Cs (.iface tx vx) sx) : Cs (.iface 33 (.agg #[.int .i64 n, .iface tx vx, .nilIface])) (sx + 1 + 1) := .inr (.inr (.inl ⟨n, tx, vx, _, rfl, rfl, unc2 h1 cs_nil⟩))
theorem cs_digest {tx : TypeId} {vx : Value} {ty : TypeId} {vy : Value} {sx sy : Nat} (h1 : Cs (.iface tx vx) sx) (h2 : Cs (.iface ty vy) sy) : Cs (.iface 39 (.agg #[.iface tx vx, .iface ty vy])) (sx + sy + 1) := .inr (.inr (.inr (.inl ⟨tx, vx, ty, vy, _, rfl, rfl, unc2 h1 h2⟩)))
theorem cs_box (n : Int) {tx : TypeId} {vx : Value} {ty : TypeId} {vy : Value} {tz : TypeId} {vz : Value} {sx sy sz : Nat} (h1 : Cs (.iface tx vx) sx) (h2 : Cs (.iface ty vy) sy) (h3 : Cs (.iface tz vz) sz) : Cs (.iface 31 (.agg #[.iface tx vx, .int .i64 n, .iface ty vy, .iface tz vz])) (sx + sy + sz + 1) := .inr (.inr (.inr (.inr ⟨n, tx, vx, ty, vy, tz, vz, _, rfl, rfl, unc3 h1 h2 h3⟩)))
theorem Tm.cs {t : TypeId} {v : Value} {l : List UInt8} {s : Nat} (h : Tm t v l s) : Cs (.iface t v) s :=
  h (fun t v _ s => Cs (.iface t v) s)
    (.inl ⟨rfl, as_Empty_Chain _, as_Empty_Digest _, as_Empty_Box _⟩)
    (fun n n0 n1 => .inl ⟨rfl, as_Atom_Chain _, as_Atom_Digest _, as_Atom_Box _⟩)
    (fun n n0 n1 => .inl ⟨rfl, as_Public_Chain _, as_Public_Digest _, as_Public_Box _⟩)
    (fun n m n0 n1 m0 m1 => .inl ⟨rfl, as_Shared_Chain _, as_Shared_Digest _, as_Shared_Box _⟩)
    (fun n tx vx ty vy nx ny sx sy n0 n1 px py => cs_chain n px py)
    (fun tx vx ty vy nx ny sx sy px py => cs_digest px py)
    (fun n tx vx ty vy tz vz nx ny nz sx sy sz n0 n1 px py pz => cs_box n px py pz)
set_option maxRecDepth 8000 in
set_option maxHeartbeats 4000000 in
theorem size_c {t : TypeId} {v : Value} {s : Nat} (h : Cs (.iface t v) s) (hs : s ≤ 10000) (w : World) :
    Calls Tryd.prog 15 #[.iface t v] w fun e u => e = .returned (.int .i64 s) ∧ Below w.heap.size w u := by
  have HU : Hid (Unc [.iface t v] s) := unc1 h
  clear h
  go_enter Tryd.func15, Tryd.ntmps15
  go_wp2_with fail
  refine (HU.out 1 10000 _ _ rfl (by omega) (by omega) (BlS.new _ [.iface t v])).mono ?_
  rintro e u ⟨r, rfl, r0, r1, hr, hb⟩
  have HB3 : Hid (Below w.heap.size w u) := below_alloc_new hb.out
  have hw : IntKind.i64.wrap (10000 - r) = (s : Int) := by
    have e := hr.out
    unfold lf at e
    rw [IntKind.wrap_i64]
    by_cases c : (10000 : Int) ≤ s
    · rw [if_pos c] at e; omega
    · rw [if_neg c] at e; omega
  clear hb hr HU
  go_wp2
  go_ret
  exact ⟨rfl, HB3.out⟩
set_option maxRecDepth 8000 in
set_option maxHeartbeats 4000000 in
theorem size_nil {s : Nat} (h : Cs (.nilIface) s) (hs : s ≤ 10000) (w : World) :
    Calls Tryd.prog 15 #[.nilIface] w fun e u => e = .returned (.int .i64 s) ∧ Below w.heap.size w u := by
  have HU : Hid (Unc [.nilIface] s) := unc1 h
  clear h
  go_enter Tryd.func15, Tryd.ntmps15
  go_wp2_with fail
  refine (HU.out 1 10000 _ _ rfl (by omega) (by omega) (BlS.new _ [.nilIface])).mono ?_
  rintro e u ⟨r, rfl, r0, r1, hr, hb⟩
  have HB3 : Hid (Below w.heap.size w u) := below_alloc_new hb.out
  have hw : IntKind.i64.wrap (10000 - r) = (s : Int) := by
    have e := hr.out
    unfold lf at e
    rw [IntKind.wrap_i64]
    by_cases c : (10000 : Int) ≤ s
    · rw [if_pos c] at e; omega
    · rw [if_neg c] at e; omega
  clear hb hr HU
  go_wp2
  go_ret
  exact ⟨rfl, HB3.out⟩
end Go.Proofs.YtifcdmiopanedaaDoor
