/-
  Several texts of one's own, laid together. No statement of the seat is proved here.
-/
import Derived.Test.YtmibjgkakolhiaaGreatDoorBPress
import Derived.Test.YtmibjgkakolhiaaGreatDoorPk3
/-
 A Hash that holds the bytes written to it so far: how it goes on. No statement of the seat is proved here.
-/
namespace Go.Proofs.YtmibjgkakolhiaaGreatDoor
open Go.RowKit

/-- The Hash in block b has taken k blocks of T, and holds the rest. -/
def Hp (u : World) (b : Nat) (T : List Int) (k : Nat) : Prop := Hs u b (hb7 T k) ((64 * k : Nat) : Int) (pad7 (T.drop (64 * k))) (T.length - 64 * k)
/-- The Hash in block b holds the bytes T. -/
structure Hx (u : World) (b : Nat) (T : List Int) : Prop where
 h : Hp u b T (kb7 T.length)
 byt : Byt T
set_option maxRecDepth 8000 in
theorem Hx.later {u u' : World} {b : Nat} {T : List Int} (h : Hx u b T) (hb : Below u.heap.size u u') : Hx u' b T := ⟨Hs.later h.h hb, h.byt⟩
set_option maxRecDepth 8000 in
theorem Hx.extb {u u' : World} {b bo : Nat} {T : List Int} (h : Hx u b T) (hb : ExtB bo u u') (hne : b ≠ bo) : Hx u' b T := ⟨Hs.extb h.h hb hne, h.byt⟩
set_option maxRecDepth 8000 in
theorem Hx.lt {u : World} {b : Nat} {T : List Int} (h : Hx u b T) : b < u.heap.size := Hs.lt h.h
set_option maxRecDepth 8000 in
theorem kb7_le (n : Nat) : 64 * kb7 n ≤ n := by unfold kb7; omega
set_option maxRecDepth 8000 in
theorem kb7_held (n : Nat) : n - 64 * kb7 n ≤ 64 := by unfold kb7; omega
set_option maxRecDepth 8000 in
theorem pad7_len {l : List Int} (h : l.length ≤ 64) : (pad7 l).length = 64 := by
 unfold pad7
 rw [List.length_append, List.length_replicate]
 omega
set_option maxRecDepth 8000 in
theorem pad7_full {l : List Int} (h : l.length = 64) : pad7 l = l := by
 unfold pad7
 rw [h]
 simp
set_option maxRecDepth 8000 in
theorem pad7_nil : pad7 [] = List.replicate 64 0 := rfl
set_option maxRecDepth 8000 in
/-- A full block is pressed in. -/
theorem hp_pressed {u : World} {b : Nat} {T : List Int} {k : Nat} (hl : T.length = 64 * k + 64) (h : Hs u b (pr7 (hb7 T k) (pad7 (T.drop (64 * k))) (((64 * k : Nat) : Int) + ((T.length - 64 * k : Nat) : Int)) false) (((64 * k : Nat) : Int) + ((T.length - 64 * k : Nat) : Int)) (List.replicate 64 0) 0) : Hp u b T (k + 1) := by
 have e1 : ((64 * k : Nat) : Int) + ((T.length - 64 * k : Nat) : Int) = ((64 * (k + 1) : Nat) : Int) := by omega
 have e2 : (T.drop (64 * k)).length = 64 := by rw [List.length_drop]; omega
 have e3 : (T.drop (64 * k)).take 64 = T.drop (64 * k) := List.take_of_length_le (by omega)
 have e4 : T.drop (64 * (k + 1)) = [] := List.drop_eq_nil_of_le (by omega)
 have e5 : T.length - 64 * (k + 1) = 0 := by omega
 rw [e1, pad7_full e2, ← e3] at h
 unfold Hp
 rw [e4, e5, pad7_nil, hb7]
 exact h
set_option maxRecDepth 8000 in
/-- Bytes are laid into the block that waits. -/
theorem pad7_part (Z y : List Int) (_h : Z.length + y.length ≤ 64) : (pad7 Z).take Z.length ++ (y ++ (pad7 Z).drop (Z.length + y.length)) = pad7 (Z ++ y) := by
 unfold pad7
 rw [List.take_append_of_le_length (Nat.le_refl _), List.take_of_length_le (Nat.le_refl _), ← List.drop_drop, List.drop_append_of_le_length (Nat.le_refl _), List.drop_of_length_le (Nat.le_refl _), List.nil_append, List.drop_replicate, List.append_assoc, List.length_append]
 congr 3
 omega
set_option maxRecDepth 8000 in
theorem hp_more {u : World} {b : Nat} {T : List Int} (y : List Int) (hT : Byt T) (hy : Byt y) (h0 : 0 < y.length) (h1 : T.length % 64 + y.length ≤ 64)
  (h : Hs u b (hb7 T (T.length / 64)) ((64 * (T.length / 64) : Nat) : Int) ((pad7 (T.drop (64 * (T.length / 64)))).take (T.length % 64) ++ (y ++ (pad7 (T.drop (64 * (T.length / 64)))).drop (T.length % 64 + y.length))) (T.length % 64 + y.length)) : Hx u b (T ++ y) := by
 have e1 : kb7 (T ++ y).length = T.length / 64 := by unfold kb7; rw [List.length_append]; omega
 have e2 : (T.drop (64 * (T.length / 64))).length = T.length % 64 := by rw [List.length_drop]; omega
 refine ⟨?_, hT.app hy⟩
 unfold Hp
 rw [e1, hb7_app T y _ (by omega), List.drop_append_of_le_length (by omega), ← pad7_part _ y (by omega), e2]
 have e3 : (T ++ y).length - 64 * (T.length / 64) = T.length % 64 + y.length := by rw [List.length_append]; omega
 rw [e3]
 exact h
set_option maxRecDepth 8000 in
theorem kb7_div {n : Nat} (h : n - 64 * kb7 n ≠ 64) : kb7 n = n / 64 := by unfold kb7 at h ⊢; omega
set_option maxRecDepth 8000 in
theorem kb7_full {n : Nat} (h : n - 64 * kb7 n = 64) : n = 64 * kb7 n + 64 ∧ n / 64 = kb7 n + 1 := by unfold kb7 at h ⊢; omega
set_option maxRecDepth 8000 in
theorem sum7_end {T : List Int} {t : Int} (ht : t = ((64 * kb7 T.length : Nat) : Int) + ((T.length - 64 * kb7 T.length : Nat) : Int)) : ou7 (pr7 (hb7 T (kb7 T.length)) (pad7 (T.drop (64 * kb7 T.length))) t true) 8 = sum7 T := by
 have h := kb7_le T.length
 have e : t = (T.length : Int) := by omega
 rw [sum7_eq, e]
 rfl
/-! ### New -/
def z64w : List Int := List.replicate 64 0
set_option maxRecDepth 8000 in
theorem z64w_bn : Bn 64 z64w := ⟨List.length_replicate, byt_zero7 64⟩
def hn7 : List Value := hc7 iv7 0 z64w 0
set_option maxRecDepth 8000 in
theorem build_iv (w : World) : Sem.run Tryz.prog (Instr.build 94 #[(0, .agg (List.map (Value.int .u32) iv7).toArray)]) w = .ok (.agg hn7.toArray) w := by kernel_rfl
set_option maxRecDepth 8000 in
theorem build_new (w : World) (ev : Operand → Value) (o : Oper) (ho : o.op = Op.build 94 #[(0, .tmp 2)]) (hs : ev (.tmp 2) = .agg (List.map (Value.int .u32) iv7).toArray) : (execOp ev o).run Tryz.prog w = .ok (.value (.agg hn7.toArray)) w := by
 unfold execOp
 rw [ho]
 have e : Array.map (fun x : Nat × Operand => match x with | (i, x) => (i, ev x)) #[(0, Operand.tmp 2)] = #[(0, .agg (List.map (Value.int .u32) iv7).toArray)] := by
  rw [← hs]
  simp
 show Sem.run Tryz.prog (do let r ← Instr.build 94 (Array.map (fun x : Nat × Operand => match x with | (i, x) => (i, ev x)) #[(0, Operand.tmp 2)]); pure (Next.value r)) w = _
 rw [e, Sem.run_bind, build_iv]
 rfl
set_option maxRecDepth 8000 in
theorem wpList_build {ops : Array Oper} {rest : List Oper} {o : Oper} {a : Act} {w : World} {Q : Exit → Act → World → Prop} (hgd : o.guard = none) (ho : o.op = Op.build 94 #[(0, .tmp 2)]) (hs : a.eval (.tmp 2) = .agg (List.map (Value.int .u32) iv7).toArray)
  (h : wpList Tryz.prog ops Q rest (a.put o.dst (.agg hn7.toArray)) w) : wpList Tryz.prog ops Q (o :: rest) a w := by
 refine wpList_plain hgd fun K hK => ?_
 unfold Oper.wp
 rw [build_new w a.eval o ho hs]
 exact hK _ _ h
end Go.Proofs.YtmibjgkakolhiaaGreatDoor
/-
 What portholehand's Pick and Bytes do: a number within bounds, so many bytes. No statement of the seat is proved here.
-/
namespace Go.Proofs.YtmibjgkakolhiaaGreatDoor
open Go.RowKit

set_option maxRecDepth 8000 in
set_option maxHeartbeats 1000000 in
theorem pick_any (n m : Int) (hn : -9223372036854775808 ≤ n ∧ n ≤ 9223372036854775807) (hm : 1 ≤ m ∧ m ≤ 1000) (w : World) :
  Calls Tryz.prog 7 #[.int .i64 n, .int .i64 m] w fun e w' => ∃ k, e = .returned (.int .i64 k) ∧ 0 ≤ k ∧ k < m ∧ w' = w := by
 obtain ⟨n0, n1⟩ := hn
 obtain ⟨m0, m1⟩ := hm
 have hl : n.tmod m < m := Int.tmod_lt_of_pos n (by omega)
 have hg : -m < n.tmod m := by
  have := Int.lt_tmod_of_pos n (show 0 < m by omega)
  omega
 by_cases h : 0 ≤ n.tmod m
 ·go_enter Tryz.func7, Tryz.ntmps7
  go_wp2
  go_ret
  exact ⟨_, rfl, h, hl, rfl⟩
 ·go_enter Tryz.func7, Tryz.ntmps7
  go_wp2
  go_ret
  exact ⟨_, rfl, by omega, by omega, rfl⟩
set_option maxRecDepth 8000 in
/-- A make at a step of a region that draws its order, where what it makes is known. -/
theorem step_make_run {P : Program} {ops : Array Oper} {o : Oper} {a : Act} {w : World} {K : Act → World → Prop} {Q : Exit → Act → World → Prop} {E : Prop} (hgd : Region.wanted o (yielded ops a.tmps) = true) (l c : Operand) (t : TypeId)
  (ho : o.op = Op.makeSlice t l c) (v1 v2 : Value) (hs : a.eval l = v1) (hx : a.eval c = v2) (v : Value) (w' : World)
  (hr : (Instr.makeSlice t v1 v2).run P w = .ok v w') (h : K (a.put o.dst v) w') : if Region.wanted o (yielded ops a.tmps) = true then Oper.wp P o a w K Q else E := by
 rw [if_pos hgd]
 unfold Oper.wp
 simp [execOp, ho, hs, hx, hr, Result.andThen]
 exact h
set_option maxRecDepth 8000 in
theorem bytes_own {w : World} {base g n c : Nat} {e : TypeId} {l : List Int} (h : w.ownsRow base e 1 (.slice (some ⟨g, 0, none⟩) n c) n (List.map (Value.int .u8) l)) (k : Nat) (hk : k < n) : ∃ v, w.cell? ⟨g, k, none⟩ = some (.int .u8 v) ∧ l[k]? = some v := by
 have hl : l.length = n := by simpa using h.1
 refine ⟨l[k]'(by omega), ?_, List.getElem?_eq_getElem _⟩
 rw [World.ownsRow.cellAt h k (by omega), List.getElem?_map, List.getElem?_eq_getElem (by omega)]
 rfl
set_option maxRecDepth 8000 in
theorem byt_set {l : List Int} (h : Byt l) (k : Nat) {x : Int} (h0 : 0 ≤ x) (h1 : x ≤ 255) : Byt (l.set k x) := fun y hy => by
 rcases List.mem_or_eq_of_mem_set hy with hy | rfl
 ·exact h y hy
 ·exact ⟨h0, h1⟩
set_option maxRecDepth 8000 in
theorem byt_zero (n : Nat) : Byt (List.replicate n 0) := fun x hx => by rw [(List.mem_replicate.1 hx).2]; decide
set_option maxRecDepth 8000 in
theorem made_zero (n : Nat) : (madeCells (Value.int .u8 0).cells (n * 1)).toList = List.map (Value.int .u8) (List.replicate n 0) := by
 have := toList_madeCells_one (.int .u8 0) n
 rw [List.map_replicate, ← this]
 simp [Value.cells]

end Go.Proofs.YtmibjgkakolhiaaGreatDoor
/-
 Slices of bytes of one's own. No statement of the seat is proved here.
-/
namespace Go.Proofs.YtmibjgkakolhiaaGreatDoor
open Go.RowKit

/-- A slice of one's own that holds these bytes. -/
structure Ow (u : World) (g n : Nat) (l : List Int) : Prop where
 own : ∃ base, u.ownsRow base 5 1 (.slice (some ⟨g, 0, none⟩) n n) n (List.map (Value.int .u8) l)
 byt : Byt l
set_option maxRecDepth 8000 in
theorem Ow.len {u : World} {g n : Nat} {l : List Int} (h : Ow u g n l) : l.length = n := by obtain ⟨_, h⟩ := h.own; simpa using h.1
set_option maxRecDepth 8000 in
theorem Ow.lt {u : World} {g n : Nat} {l : List Int} (h : Ow u g n l) : g < u.heap.size := by obtain ⟨_, h⟩ := h.own; exact (h.lt g (by simp [Value.ownBlock])).2
set_option maxRecDepth 8000 in
theorem Ow.later {u v : World} {g n : Nat} {l : List Int} (h : Ow u g n l) (hb : Below u.heap.size u v) : Ow v g n l := ⟨by obtain ⟨b, h⟩ := h.own; exact ⟨b, owns_later h hb⟩, h.byt⟩
set_option maxRecDepth 8000 in
theorem Ow.rd {u : World} {g n : Nat} {l : List Int} (h : Ow u g n l) : Rd u (some ⟨g, 0, none⟩) n n l := by obtain ⟨_, h'⟩ := h.own; exact Rd.owns h.byt h'
set_option maxRecDepth 8000 in
theorem Ow.cell {u : World} {g n : Nat} {l : List Int} (h : Ow u g n l) (k : Nat) (hk : k < n) : ∃ v, u.cell? ⟨g, k, none⟩ = some (.int .u8 v) ∧ u.frozen? ⟨g, k, none⟩ = false ∧ l[k]? = some v ∧ 0 ≤ v ∧ v ≤ 255 := by
 obtain ⟨_, h'⟩ := h.own
 obtain ⟨v, h1, h2⟩ := bytes_own h' k hk
 exact ⟨v, h1, World.ownsRow.frozenAt h' k, h2, h.byt v (List.mem_of_getElem? h2)⟩
set_option maxRecDepth 8000 in
theorem Ow.set {u : World} {g n : Nat} {l : List Int} (h : Ow u g n l) (k : Nat) {v : Int} (h0 : 0 ≤ v) (h1 : v ≤ 255) : Ow (u.setCell ⟨g, k, none⟩ (.int .u8 v)) g n (l.set k v) := ⟨by
 obtain ⟨b, h'⟩ := h.own
 refine ⟨b, ?_⟩
 rw [List.map_set]
 exact (h'.stored k _).1, byt_set h.byt k h0 h1⟩
set_option maxRecDepth 8000 in
theorem Ow.else {u : World} {g n : Nat} {l : List Int} (h : Ow u g n l) (c k : Nat) (hc : g ≠ c) (v : Value) : Ow (u.setCell ⟨c, k, none⟩ v) g n l := ⟨by
 obtain ⟨b, h'⟩ := h.own
 exact ⟨b, h'.kept (w' := u.setCell ⟨c, k, none⟩ v) (row := some c) ⟨rfl, rfl, rfl, by simp, fun i hi hne => Below.heap_setCell _ _ _ _ (fun e => hne (by simp [e]))⟩ (.inr (by simp [Value.ownBlock]; exact fun e => hc e))⟩, h.byt⟩
set_option maxRecDepth 8000 in
theorem wpAnyH_mono {P : Program} {md : Region.Mode} {ops : Array Oper} {Q : Exit → Act → World → Prop} {S S' : World → Prop} (hS : ∀ u, S' u → S u) :
  ∀ {fuel : Nat} {listed : Array Bool} {a : Act} {w : World}, wpAnyH P md ops Q S' fuel listed a w → wpAnyH P md ops Q S fuel listed a w
 | 0, _, _, _, h => h
 | _ + 1, _, _, _, h => ⟨h.1, fun i hi => wpOp_mono (fun _ _ h' => ⟨hS _ h'.1, wpAnyH_mono hS h'.2⟩) (h.2 i hi)⟩
set_option maxRecDepth 8000 in
theorem str_of {w : World} {a : Option Addr} {len cap : Nat} {l : List Int} (h : Rd w a len cap l) : (convert 28 9 (.slice a len cap)).run Tryz.prog w = .ok (.string (strOfNums l)) w := h.str _ 5 _ Tryz.underlying28 Tryz.underlying5 Tryz.underlying9
set_option maxRecDepth 8000 in
theorem xorL_self : ∀ {a : List Int}, Byt a → xorL a a = List.replicate a.length 0
 | [], _ => rfl
 | x :: a, h => by
  have hx := h x (by simp)
  have e := xorL_self (a := a) (fun y hy => h y (List.mem_cons_of_mem _ hy))
  unfold xorL at e ⊢
  rw [List.zipWith_cons_cons, e, List.length_cons, List.replicate_succ, (xor8 x x hx hx).2.2.2 rfl]
end Go.Proofs.YtmibjgkakolhiaaGreatDoor
