/-
  Several texts of one's own, laid together. No statement of the seat is proved here.
-/
import Derived.Test.YtjmdgmbkkkoamaaDoorPk10
import Derived.Test.YtjmdgmbkkkoamaaDoorPk11
import Derived.Maps.AppendAt
import Derived.Laws.OwnMore
import Derived.Test.YtjmdgmbkkkoamaaDoorPTag
/-
  The reference's Cipher in memory: whether it has a key, the key, the nonce. No statement of the seat is proved here.
-/
namespace Go.Proofs.YtjmdgmbkkkoamaaDoor
open Go.RowKit

/-- A Cipher's cells. -/
def rc9 (k : List Int) (h : Bool) (n : Int) : List Value := .bool h :: (List.map (Value.int .u8) k ++ [.int .u64 n])
set_option maxRecDepth 8000 in
theorem rc9_len {k : List Int} {h : Bool} {n : Int} (hk : k.length = 32) : (rc9 k h n).length = 34 := by
  unfold rc9
  simp [hk]
set_option maxRecDepth 8000 in
theorem rc9_take {k : List Int} {h : Bool} {n : Int} (hk : k.length = 32) : ((rc9 k h n).drop 1).take 32 = List.map (Value.int .u8) k := by
  unfold rc9
  rw [List.drop_succ_cons, List.drop_zero, List.take_append_of_le_length (by rw [List.length_map]; omega), List.take_of_length_le (by rw [List.length_map]; omega)]
set_option maxRecDepth 8000 in
theorem rc9_key {k k' : List Int} {h : Bool} {n : Int} (hk : k.length = 32) (hk' : k'.length = 32) : (rc9 k h n).take 1 ++ (List.map (Value.int .u8) k' ++ (rc9 k h n).drop (1 + (List.map (Value.int .u8) k').length)) = rc9 k' h n := by
  have e : (rc9 k h n).drop (1 + 32) = [.int .u64 n] := by
    unfold rc9
    rw [Nat.add_comm, List.drop_succ_cons, List.drop_append, List.drop_eq_nil_of_le (by rw [List.length_map]; omega), List.nil_append, List.length_map, hk]
    rfl
  rw [List.length_map, hk', e]
  rfl
set_option maxRecDepth 8000 in
theorem rc9_one {k : List Int} {h : Bool} {n : Int} (i : Nat) (hi : i < k.length) (x : Int) : (rc9 k h n).set (1 + i) (.int .u8 x) = rc9 (k.set i x) h n := by
  unfold rc9
  rw [Nat.add_comm, List.set_cons_succ, List.set_append_left _ _ (by rw [List.length_map]; exact hi), List.map_set]
set_option maxRecDepth 8000 in
theorem rc9_has {k : List Int} {h : Bool} {n : Int} (h' : Bool) : (rc9 k h n).set 0 (.bool h') = rc9 k h' n := rfl
set_option maxRecDepth 8000 in
theorem rc9_nonce {k : List Int} {h : Bool} {n : Int} (hk : k.length = 32) (n' : Int) : (rc9 k h n).set 33 (.int .u64 n') = rc9 k h n' := by
  unfold rc9
  rw [List.set_cons_succ, List.set_append_right _ _ (by rw [List.length_map]; omega), List.length_map, hk]
  rfl
/-- The Cipher in block b has the key k (h: whether it has one), and n is the nonce of the next box. -/
structure Cx (u : World) (b : Nat) (k : List Int) (h : Bool) (n : Int) : Prop where
  ar : Ar u b 34 (rc9 k h n)
  bk : Bn 32 k
  wn : 0 ≤ n ∧ n < 18446744073709551616
section
variable {u u' : World} {b : Nat} {k : List Int} {h : Bool} {n : Int}
set_option maxRecDepth 8000 in
theorem Cx.later (s : Cx u b k h n) (hb : Below u.heap.size u u') : Cx u' b k h n := ⟨s.ar.later hb, s.bk, s.wn⟩
set_option maxRecDepth 8000 in
theorem Cx.extb {bo : Nat} (s : Cx u b k h n) (hb : ExtB bo u u') (hne : b ≠ bo) : Cx u' b k h n := ⟨s.ar.extb hb hne, s.bk, s.wn⟩
set_option maxRecDepth 8000 in
theorem Cx.drew (s : Cx u b k h n) : Cx u.drew b k h n := ⟨s.ar.drew, s.bk, s.wn⟩
set_option maxRecDepth 8000 in
theorem Cx.lt (s : Cx u b k h n) : b < u.heap.size := s.ar.lt (by decide)
set_option maxRecDepth 8000 in
theorem Cx.key (s : Cx u b k h n) : u.rangeAt b 1 (List.map (Value.int .u8) k) := by
  have := range_sub s.ar.rng 1 32
  rwa [rc9_take s.bk.len] at this
set_option maxRecDepth 8000 in
theorem Cx.keyThere (s : Cx u b k h n) : u.there b 1 32 := there_part s.ar.all 1 32 (by decide)
set_option maxRecDepth 8000 in
theorem Cx.has (s : Cx u b k h n) : u.cell? ⟨b, 0, none⟩ = some (.bool h) ∧ u.frozen? ⟨b, 0, none⟩ = false := by
  obtain ⟨h1, h2⟩ := s.ar.cell 0 (by decide)
  exact ⟨h1, h2⟩
set_option maxRecDepth 8000 in
theorem Cx.nonce (s : Cx u b k h n) : u.cell? ⟨b, 33, none⟩ = some (.int .u64 n) ∧ u.frozen? ⟨b, 33, none⟩ = false := by
  obtain ⟨h1, h2⟩ := s.ar.cell 33 (by decide)
  refine ⟨?_, h2⟩
  have e : (rc9 k h n)[33]? = some (.int .u64 n) := by
    unfold rc9
    rw [List.getElem?_cons_succ, List.getElem?_append_right (by rw [List.length_map, s.bk.len]; decide), List.length_map, s.bk.len]
    rfl
  rw [h1, ← e, List.getElem?_eq_getElem]
set_option maxRecDepth 8000 in
theorem Cx.byte (s : Cx u b k h n) (i : Nat) (hi : i < 32) : ∃ x, u.cell? ⟨b, 1 + i, none⟩ = some (.int .u8 x) ∧ u.frozen? ⟨b, 1 + i, none⟩ = false := by
  obtain ⟨h1, h2⟩ := s.ar.cell (1 + i) (by omega)
  have hx : i < k.length := by rw [s.bk.len]; exact hi
  refine ⟨k[i], ?_, h2⟩
  have e : (rc9 k h n)[1 + i]? = some (.int .u8 k[i]) := by
    unfold rc9
    rw [Nat.add_comm, List.getElem?_cons_succ, List.getElem?_append_left (by rw [List.length_map]; exact hx), List.getElem?_map, List.getElem?_eq_getElem hx]
    rfl
  rw [h1, ← e, List.getElem?_eq_getElem]
set_option maxRecDepth 8000 in
theorem Cx.setN (s : Cx u b k h n) {n' : Int} (hn : 0 ≤ n' ∧ n' < 18446744073709551616) : Cx (u.setCell ⟨b, 33, none⟩ (.int .u64 n')) b k h n' :=
  ⟨by rw [← rc9_nonce s.bk.len n']; exact s.ar.set 33 (by decide) _, s.bk, hn⟩
set_option maxRecDepth 8000 in
theorem Cx.setHas (s : Cx u b k h n) (h' : Bool) : Cx (u.setCell ⟨b, 0, none⟩ (.bool h')) b k h' n :=
  ⟨by rw [← rc9_has (h := h) h']; exact s.ar.set 0 (by decide) _, s.bk, s.wn⟩
set_option maxRecDepth 8000 in
theorem Cx.setKey (s : Cx u b k h n) {k' : List Int} (hk : Bn 32 k') : Cx (u.setCells b 1 (List.map (Value.int .u8) k')) b k' h n :=
  ⟨by rw [← rc9_key s.bk.len hk.len (k := k)]; exact s.ar.part 1 _ (by rw [hk.map_len]; decide), hk, s.wn⟩
set_option maxRecDepth 8000 in
theorem Cx.setOne (s : Cx u b k h n) (i : Nat) (hi : i < 32) {x : Int} (hx : 0 ≤ x ∧ x ≤ 255) : Cx (u.setCell ⟨b, 1 + i, none⟩ (.int .u8 x)) b (k.set i x) h n :=
  ⟨by rw [← rc9_one i (by rw [s.bk.len]; exact hi) x]; exact s.ar.set (1 + i) (by omega) _, ⟨by rw [List.length_set, s.bk.len], fun y hy => by
    rcases List.mem_or_eq_of_mem_set hy with h | h
    · exact s.bk.byt y h
    · rw [h]; exact hx⟩, s.wn⟩
end
set_option maxRecDepth 8000 in
theorem rc9_oneCell (k : List Int) (h : Bool) (n : Int) : ∀ v ∈ rc9 k h n, v.oneCell' = true := fun v hv => by
  unfold rc9 at hv
  rcases List.mem_cons.1 hv with rfl | hv
  · rfl
  · rcases List.mem_append.1 hv with hv | hv
    · exact bytes_oneCell k v hv
    · rw [List.mem_singleton.1 hv]; rfl
set_option maxRecDepth 8000 in
theorem rc9_cells {k : List Int} (h : Bool) (n : Int) (hk : Bn 32 k) : (rc9 k h n).length = 34 ∧ (∀ v ∈ rc9 k h n, v.oneCell' = true) ∧ (Tryd.prog.info? 30).map (·.size) = some (rc9 k h n).length :=
  ⟨rc9_len hk.len, rc9_oneCell k h n, by rw [rc9_len hk.len]; kernel_rfl⟩
set_option maxRecDepth 8000 in
theorem cx_new (u : World) (k : List Int) (h : Bool) (n : Int) (hk : Bn 32 k) (hn : 0 ≤ n ∧ n < 18446744073709551616) (t : TypeId) : Cx (u.alloc (.cells (rc9 k h n).toArray t)) u.heap.size k h n := ⟨ar_box u _ 34 (rc9_len hk.len) t, hk, hn⟩
end Go.Proofs.YtjmdgmbkkkoamaaDoor
/-
  An append of whatever bytes to a slice of one's own: nil or not, and where it lies behind it. No statement of the seat is proved here.
-/
namespace Go.Proofs.YtjmdgmbkkkoamaaDoor
open Go.RowKit

set_option maxRecDepth 8000 in
theorem below_gb {u v : World} {B : Nat} {row : Option Nat} (h : u.grownBy v row) (hB : B ≤ u.heap.size) (hr : ∀ k, row = some k → B ≤ k) : Below B u v :=
  ⟨h.os, h.tape, h.output, h.size, fun k hk => h.block k (by omega) (fun e => by have := hr k e.symm; omega)⟩
set_option maxRecDepth 8000 in
theorem app_l (u : World) (base : Nat) (v : Value) (n : Nat) (xl : List Int) (a : Option Addr) (m c : Nat) (l : List Int) (hown : u.ownsRow base 5 1 v n (List.map (Value.int .u8) xl)) (hr : Rd u a m c l) (hnm : n + m ≤ 140737488355328) (hbase : base ≤ u.heap.size) (ty : TypeId) :
    ∃ v' w', (Builtin.append_ #[31, 31] ty #[v, .slice a m c]).run Tryd.prog u = .ok v' w' ∧ w'.ownsRow base 5 1 v' (n + m) (List.map (Value.int .u8) (xl ++ l)) ∧ u.grownBy w' v.ownBlock ∧ Below base u w' := by
  obtain ⟨i0, hi, hz0, hz1, hz2⟩ := info_parts info5
  cases a with
  | none =>
    obtain ⟨rfl, rfl, rfl⟩ := hr.none_len
    refine ⟨v, u, run_append_owned_none u base 31 ty 5 i0 1 Tryd.underlying31 hi v n _ hown, by rw [Nat.add_zero, List.append_nil]; exact hown, ⟨rfl, rfl, rfl, Nat.le_refl _, fun _ _ _ => rfl⟩, Below.refl _ _⟩
  | some x =>
    have hn : ∀ j w, (List.map (Value.int .u8) l)[j]? = some w → u.cell? (x.add j) = some w := by
      have := hr.news m
      rwa [List.take_of_length_le (by rw [hr.hlen]; exact Nat.le_refl _)] at this
    obtain ⟨v', w', h1, h2, h3, -⟩ := run_append_own (P := Tryd.prog) u base 31 ty 5 i0 (.int .u8 0) 1 1 Tryd.underlying31 hi hz0 hz1 hz2 rfl (by decide) v n _ hown x m c (List.map (Value.int .u8) l) (by rw [List.length_map, hr.hlen, Nat.mul_one]) hn (bytes_oneCell _) (by unfold maxLen; omega) (by omega) hbase
    rw [← List.map_append] at h2
    exact ⟨v', w', h1, h2, h3, below_gb h3 hbase (fun k hk => (hown.lt k hk).1)⟩
set_option maxRecDepth 8000 in
theorem wpList_app_l {ops : Array Oper} {rest : List Oper} {o : Oper} {a : Act} {u : World} {Q : Exit → Act → World → Prop} (hgd : o.guard = none) (s x : Operand)
    (ho : o.op = .call { callee := .builtin .append, args := #[s, x], argTypes := #[31, 31] }) (base : Nat) (v : Value) (n : Nat) (xl : List Int) (hs : a.eval s = v) (hown : u.ownsRow base 5 1 v n (List.map (Value.int .u8) xl))
    (ad : Option Addr) (m c : Nat) (l : List Int) (hx : a.eval x = .slice ad m c) (hr : Rd u ad m c l) (hnm : n + m ≤ 140737488355328) (hbase : base ≤ u.heap.size)
    (h : ∀ v' w', w'.ownsRow base 5 1 v' (n + m) (List.map (Value.int .u8) (xl ++ l)) → Below base u w' → wpList Tryd.prog ops Q rest (a.put o.dst v') w') : wpList Tryd.prog ops Q (o :: rest) a u := by
  refine wpList_plain hgd fun K hK => ?_
  obtain ⟨v', w', h1, h2, -, h4⟩ := app_l u base v n xl ad m c l hown hr hnm hbase o.type
  unfold Oper.wp execOp
  simp only [ho, resolve, invoke, builtin, Sem.run_bind, Sem.run_pure, Result.andThen_ok, List.map_toArray, List.map_cons, List.map_nil, hs, hx, h1]
  exact hK _ _ (h v' w' h2 h4)
set_option maxRecDepth 8000 in
theorem owns_sh {w : World} {base n : Nat} {v : Value} {l : List Int} (h : w.ownsRow base 5 1 v n (List.map (Value.int .u8) l)) : ∃ a c, v = .slice a n c := owns_shape h
set_option maxRecDepth 8000 in
theorem rd_own {w : World} {base n c : Nat} {a : Option Addr} {l : List Int} (hb : Byt l) (h : w.ownsRow base 5 1 (.slice a n c) n (List.map (Value.int .u8) l)) : Rd w a n c l := Rd.owns hb h
set_option maxRecDepth 8000 in
/-- Where it is not empty it has a block, from the base on. -/
theorem owns_block {w : World} {base n c : Nat} {a : Option Addr} {xs : List Value} (h : w.ownsRow base 5 1 (.slice a n c) n xs) (hn : 0 < n) : ∃ g, a = some ⟨g, 0, none⟩ ∧ base ≤ g ∧ g < w.heap.size := by
  rcases h.2 with ⟨_, rfl⟩ | ⟨g, cap', cur, hv, hg, hh, _⟩
  · omega
  · cases hv
    exact ⟨g, rfl, hg, (Array.getElem?_eq_some_iff.1 hh).1⟩
set_option maxRecDepth 8000 in
/-- The same, and it is told where the slice lies. -/
theorem app_at (u : World) (base : Nat) (v : Value) (n : Nat) (xl : List Int) (a : Option Addr) (m c : Nat) (l : List Int) (hown : u.ownsRow base 5 1 v n (List.map (Value.int .u8) xl)) (hr : Rd u a m c l) (hnm : n + m ≤ 140737488355328) (hbase : base ≤ u.heap.size) (ty : TypeId) :
    ∃ v' w', (Builtin.append_ #[31, 31] ty #[v, .slice a m c]).run Tryd.prog u = .ok v' w' ∧ w'.ownsRow base 5 1 v' (n + m) (List.map (Value.int .u8) (xl ++ l)) ∧ u.grownBy w' v.ownBlock ∧ (v'.ownBlock = v.ownBlock ∨ v'.ownBlock = some u.heap.size) := by
  obtain ⟨i0, hi, hz0, hz1, hz2⟩ := info_parts info5
  cases a with
  | none =>
    obtain ⟨rfl, rfl, rfl⟩ := hr.none_len
    exact ⟨v, u, run_append_owned_none u base 31 ty 5 i0 1 Tryd.underlying31 hi v n _ hown, by rw [Nat.add_zero, List.append_nil]; exact hown, ⟨rfl, rfl, rfl, Nat.le_refl _, fun _ _ _ => rfl⟩, .inl rfl⟩
  | some x =>
    have hn : ∀ j w, (List.map (Value.int .u8) l)[j]? = some w → u.cell? (x.add j) = some w := by
      have := hr.news m
      rwa [List.take_of_length_le (by rw [hr.hlen]; exact Nat.le_refl _)] at this
    obtain ⟨v', w', h1, h2, h3, -, h5⟩ := run_append_own_at (P := Tryd.prog) u base 31 ty 5 i0 (.int .u8 0) 1 1 Tryd.underlying31 hi hz0 hz1 hz2 rfl (by decide) v n _ hown x m c (List.map (Value.int .u8) l) (by rw [List.length_map, hr.hlen, Nat.mul_one]) hn (bytes_oneCell _) (by unfold maxLen; omega) (by omega) hbase
    rw [← List.map_append] at h2
    exact ⟨v', w', h1, h2, h3, h5⟩
set_option maxRecDepth 8000 in
theorem wpList_app_at {ops : Array Oper} {rest : List Oper} {o : Oper} {a : Act} {u : World} {Q : Exit → Act → World → Prop} (hgd : o.guard = none) (s x : Operand)
    (ho : o.op = .call { callee := .builtin .append, args := #[s, x], argTypes := #[31, 31] }) (base : Nat) (v : Value) (n : Nat) (xl : List Int) (hs : a.eval s = v) (hown : u.ownsRow base 5 1 v n (List.map (Value.int .u8) xl))
    (ad : Option Addr) (m c : Nat) (l : List Int) (hx : a.eval x = .slice ad m c) (hr : Rd u ad m c l) (hnm : n + m ≤ 140737488355328) (hbase : base ≤ u.heap.size)
    (h : ∀ v' w', w'.ownsRow base 5 1 v' (n + m) (List.map (Value.int .u8) (xl ++ l)) → u.grownBy w' v.ownBlock → (v'.ownBlock = v.ownBlock ∨ v'.ownBlock = some u.heap.size) → wpList Tryd.prog ops Q rest (a.put o.dst v') w') : wpList Tryd.prog ops Q (o :: rest) a u := by
  refine wpList_plain hgd fun K hK => ?_
  obtain ⟨v', w', h1, h2, h3, h4⟩ := app_at u base v n xl ad m c l hown hr hnm hbase o.type
  unfold Oper.wp execOp
  simp only [ho, resolve, invoke, builtin, Sem.run_bind, Sem.run_pure, Result.andThen_ok, List.map_toArray, List.map_cons, List.map_nil, hs, hx, h1]
  exact hK _ _ (h v' w' h2 h3 h4)
end Go.Proofs.YtjmdgmbkkkoamaaDoor
/-
  Slices of words that hold digits from 0 to 255, for the reference's numbers. No statement of the seat is proved here.
-/
namespace Go.Proofs.YtjmdgmbkkkoamaaDoor
open Go.RowKit

set_option maxRecDepth 8000 in
theorem infoU : (Tryd.prog.info? 57).map (fun i => (i.zero, i.size, i.bytes)) = some (some (.int .u32 0), 1, 4) := by kernel_rfl
/-- A slice of words that reads as digits. -/
structure Ru (w : World) (a : Option Addr) (len cap : Nat) (l : List Int) : Prop where
  hlen : l.length = len
  hle : len ≤ cap
  byt : Byt l
  cell : 0 < len → ∃ b off, a = some ⟨b, off, none⟩ ∧ ∀ i, i < len → w.cell? ⟨b, off + i, none⟩ = some (.int .u32 (l[i]?.getD 0))
set_option maxRecDepth 8000 in
theorem Ru.below {w w' : World} {a : Option Addr} {len cap : Nat} {l : List Int} (h : Ru w a len cap l) (hb : Below w.heap.size w w') : Ru w' a len cap l :=
  ⟨h.hlen, h.hle, h.byt, fun h0 => by
    obtain ⟨b, off, ha, hc⟩ := h.cell h0
    exact ⟨b, off, ha, fun i hi => cell_later hb (hc i hi)⟩⟩
set_option maxRecDepth 8000 in
theorem Ru.nil (w : World) (a : Option Addr) (cap : Nat) : Ru w a 0 cap [] := ⟨rfl, Nat.zero_le _, Byt.nil, fun h => by omega⟩
set_option maxRecDepth 8000 in
theorem Ru.owns {w : World} {base : Nat} {e : TypeId} {a : Option Addr} {n cap : Nat} {l : List Int} (hb : Byt l) (h : w.ownsRow base e 1 (.slice a n cap) n (l.map (Value.int .u32))) : Ru w a n cap l := by
  have hl : l.length = n := by simpa using h.1
  rcases h.2 with ⟨hv, rfl⟩ | ⟨g, cap', cur, hv, hg, hh, hle, _, hs, ht⟩
  · have : l = [] := List.eq_nil_of_length_eq_zero hl
    subst this
    cases hv
    exact Ru.nil _ _ _
  · cases hv
    refine ⟨hl, hle, hb, fun _ => ⟨g, 0, rfl, fun i hi => ?_⟩⟩
    rw [Nat.zero_add, World.ownsRow.cellAt h i (by omega)]
    simp [List.getElem?_eq_getElem (show i < l.length by omega)]
set_option maxRecDepth 8000 in
theorem words_oneCell (l : List Int) : ∀ u ∈ l.map (Value.int .u32), u.oneCell' = true := ints_oneCell _ _
set_option maxRecDepth 8000 in
theorem one_news32 (w : World) (x : Value) (t : TypeId) : ∀ (j : Nat) (u : Value), [x][j]? = some u → (w.alloc (.cells #[x] t)).cell? ((⟨w.heap.size, 0, none⟩ : Addr).add j) = some u := by
  intro j u hu
  have hj : j = 0 := by
    have := (List.getElem?_eq_some_iff.1 hu).1
    simpa using this
  subst hj
  rw [Addr.add_lit, Nat.add_zero, cell_of_row _ _ _ _ _ _ (heap_alloc_new w _)]
  simpa using hu
set_option maxRecDepth 8000 in
/-- A row of one's own stays one. -/
theorem own_later {u v : World} {base n : Nat} {e : TypeId} {x : Value} {xs : List Value} (h : u.ownsRow base e 1 x n xs) (hb : Below u.heap.size u v) : v.ownsRow base e 1 x n xs :=
  h.kept (w' := v) (row := none) ⟨hb.os, hb.tape, hb.output, hb.size, fun k hk _ => hb.block k hk⟩ (by cases hx : x.ownBlock <;> simp)
set_option maxRecDepth 8000 in
theorem Byt.get {l : List Int} (h : Byt l) {i : Nat} (hi : i < l.length) : 0 ≤ l[i] ∧ l[i] ≤ 255 := h _ (List.getElem_mem hi)
set_option maxRecDepth 8000 in
theorem leN_drop (l : List Int) (i : Nat) (h : i < l.length) : leN (l.drop i) = l[i]?.getD 0 + 256 * leN (l.drop (i + 1)) := by
  rw [List.drop_eq_getElem_cons h, leN, List.getElem?_eq_getElem h]
  rfl
set_option maxRecDepth 8000 in
theorem leN_dropN (l : List Int) (i : Nat) (h : l.length ≤ i) : leN (l.drop i) = 0 := by
  rw [List.drop_eq_nil_of_le h]
  rfl
set_option maxRecDepth 8000 in
theorem leN_snoc (l : List Int) (x : Int) : leN (l ++ [x]) = leN l + 256 ^ l.length * x := by
  rw [leN_app, leN, leN]
  simp
set_option maxRecDepth 8000 in
theorem pow_pos (n : Nat) : (0 : Int) < 256 ^ n := Int.pow_pos (by decide)
end Go.Proofs.YtjmdgmbkkkoamaaDoor
