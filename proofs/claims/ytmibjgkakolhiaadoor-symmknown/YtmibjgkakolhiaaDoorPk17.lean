/-
  Several texts of one's own, laid together. No statement of the seat is proved here.
-/
import Derived.Test.YtmibjgkakolhiaaDoorKGen
/-
  What portholehand's Pick and Bytes do: a number within bounds, so many bytes. No statement of the seat is proved here.
-/
namespace Go.Proofs.YtmibjgkakolhiaaDoor
open Go.RowKit

set_option maxRecDepth 8000 in
set_option maxHeartbeats 1000000 in
theorem pick_any (n m : Int) (hn : -9223372036854775808 ≤ n ∧ n ≤ 9223372036854775807) (hm : 1 ≤ m ∧ m ≤ 1000) (w : World) :
    Calls Tryd.prog 20 #[.int .i64 n, .int .i64 m] w fun e w' => ∃ k, e = .returned (.int .i64 k) ∧ 0 ≤ k ∧ k < m ∧ w' = w := by
  obtain ⟨n0, n1⟩ := hn
  obtain ⟨m0, m1⟩ := hm
  have hl : n.tmod m < m := Int.tmod_lt_of_pos n (by omega)
  have hg : -m < n.tmod m := by
    have := Int.lt_tmod_of_pos n (show 0 < m by omega)
    omega
  by_cases h : 0 ≤ n.tmod m
  · go_enter Tryd.func20, Tryd.ntmps20
    go_wp2
    go_ret
    exact ⟨_, rfl, h, hl, rfl⟩
  · go_enter Tryd.func20, Tryd.ntmps20
    go_wp2
    go_ret
    exact ⟨_, rfl, by omega, by omega, rfl⟩
set_option maxRecDepth 8000 in
/-- A make at a step of a region that draws its order, where what it makes is known. -/
theorem step_make_run {P : Program} {ops : Array Oper} {o : Oper} {a : Act} {w : World} {K : Act → World → Prop} {Q : Exit → Act → World → Prop} {E : Prop} (hgd : Region.wanted o (yielded ops a.tmps) = true) (l c : Operand) (t : TypeId)
    (ho : o.op = Op.makeSlice t l c) (v1 v2 : Value) (hs : a.eval l = v1) (hx : a.eval c = v2) (v : Value) (w' : World)
    (hr : (Instr.makeSlice t v1 v2).run P w = .ok v w') (h : K (a.put o.dst v) w') : if Region.wanted o (yielded ops a.tmps) = true then Oper.wp P o a w K Q else E := by
  rw [if_pos hgd]
  unfold Oper.wp
  simp [execOp, ho, hs, hx, hr, Result.andThen]
  exact h
set_option maxRecDepth 8000 in
theorem bytes_own {w : World} {base g n c : Nat} {e : TypeId} {l : List Int} (h : w.ownsRow base e 1 (.slice (some ⟨g, 0, none⟩) n c) n (List.map (Value.int .u8) l)) (k : Nat) (hk : k < n) : ∃ v, w.cell? ⟨g, k, none⟩ = some (.int .u8 v) ∧ l[k]? = some v := by
  have hl : l.length = n := by simpa using h.1
  refine ⟨l[k]'(by omega), ?_, List.getElem?_eq_getElem _⟩
  rw [World.ownsRow.cellAt h k (by omega), List.getElem?_map, List.getElem?_eq_getElem (by omega)]
  rfl
set_option maxRecDepth 8000 in
theorem byt_set {l : List Int} (h : Byt l) (k : Nat) {x : Int} (h0 : 0 ≤ x) (h1 : x ≤ 255) : Byt (l.set k x) := fun y hy => by
  rcases List.mem_or_eq_of_mem_set hy with hy | rfl
  · exact h y hy
  · exact ⟨h0, h1⟩
set_option maxRecDepth 8000 in
theorem byt_zero (n : Nat) : Byt (List.replicate n 0) := fun x hx => by rw [(List.mem_replicate.1 hx).2]; decide
set_option maxRecDepth 8000 in
theorem made_zero (n : Nat) : (madeCells (Value.int .u8 0).cells (n * 1)).toList = List.map (Value.int .u8) (List.replicate n 0) := by
  have := toList_madeCells_one (.int .u8 0) n
  rw [List.map_replicate, ← this]
  simp [Value.cells]

set_option maxRecDepth 8000 in
set_option maxHeartbeats 1000000 in
theorem bytes_c (n : Nat) (seed : Int) (hn : n ≤ 100000) (w : World) :
    Calls Tryd.prog 23 #[.int .i64 n, .int .i64 seed] w fun e w' => ∃ g X, e = .returned (.slice (some ⟨g, 0, none⟩) n n) ∧ Hid (Byt X) ∧ Hid (w'.ownsRow w.heap.size 5 1 (.slice (some ⟨g, 0, none⟩) n n) n (List.map (Value.int .u8) X)) ∧ Below w.heap.size w w' := by
  obtain ⟨i0, hi, hz0, hz1, hz2⟩ := info_parts info5
  obtain ⟨x0, hw0⟩ : ∃ x, IntKind.u64.wrap seed = x := ⟨_, rfl⟩
  have hx0 : 0 ≤ x0 ∧ x0 < 18446744073709551616 := by rw [IntKind.wrap_u64] at hw0; omega
  go_enter Tryd.func23, Tryd.ntmps23
  go_wp2_with (at_make; refine wpList_make_full _ rfl _ _ 35 rfl w.heap.size 5 i0 (.int .u8 0) 1 Tryd.underlying35 hi hz0 hz1 _ _ _ _ n rfl rfl rfl rfl (by rw [hz2]; omega) (by unfold maxLen; omega) (Nat.le_refl _) ?_)
  intro W1 hown hgrow
  have hb1 : Below w.heap.size w W1 := (Below.refl _ _).grown hgrow (Nat.le_refl _) (fun k h => by cases h)
  have HO : Hid (W1.ownsRow w.heap.size 5 1 (.slice (some ⟨w.heap.size, 0, none⟩) n n) n (List.map (Value.int .u8) (List.replicate n 0))) := by unfold Hid; rw [← made_zero]; simpa [Value.cells] using hown
  have HB : Hid (Below w.heap.size w W1) := hb1
  clear hown hgrow hb1
  go_wp2
  clear hw0
  go_loopw [6, 7] (fun x i wr => ∃ (k : Nat) (v : Int) (X : List Int), k ≤ n ∧ i = .int .i64 k ∧ x = .int .u64 v ∧ 0 ≤ v ∧ v < 18446744073709551616 ∧ Hid (Byt X) ∧ Hid (wr.ownsRow w.heap.size 5 1 (.slice (some ⟨w.heap.size, 0, none⟩) n n) n (List.map (Value.int .u8) X)) ∧ Hid (Below w.heap.size w wr)) (fun _ i _ => n - (intOf i).toNat)
  case atStart => exact ⟨0, x0, _, Nat.zero_le _, rfl, rfl, hx0.1, hx0.2, byt_zero n, HO, HB⟩
  case round =>
    clear HO HB
    obtain ⟨k, v, X, hk, rfl, rfl, v0, v1, HX, HO, HB⟩ := hrel
    by_cases hlt : k < n
    · have g1 : (k : Int) < n := by omega
      obtain ⟨y, cy, -⟩ := bytes_own HO.out k hlt
      have cf := World.ownsRow.frozenAt HO.out k
      obtain ⟨v', hv'⟩ : ∃ v', IntKind.u64.wrap (IntKind.u64.wrap (v * 6364136223846793005) + 1442695040888963407) = v' := ⟨_, rfl⟩
      have hwd : 0 ≤ v' ∧ v' < 18446744073709551616 := by rw [IntKind.wrap_u64] at hv'; omega
      obtain ⟨bb, hbb⟩ : ∃ bb, IntKind.u8.wrap (v' / 1099511627776) = bb := ⟨_, rfl⟩
      have hbd : 0 ≤ bb ∧ bb ≤ 255 := by rw [IntKind.wrap_u8] at hbb; omega
      obtain ⟨hwd0, hwd1⟩ := hwd
      go_wp2
      clear hv' hbb
      go_roundw
      case rel => exact ⟨k + 1, v', X.set k bb, by omega, by go_num, rfl, hwd0, hwd1, byt_set HX.out k hbd.1 hbd.2, by
        unfold Hid
        rw [List.map_set]
        exact (HO.out.stored k _).1, HB.out.setCell (p := ⟨w.heap.size, k, none⟩) (Nat.le_refl _) _⟩
      case measure => simp [intOf]; omega
    · have e : k = n := by omega
      subst e
      go_wp2
      go_ret
      exact ⟨_, X, rfl, HX, HO, HB.out⟩
end Go.Proofs.YtmibjgkakolhiaaDoor
/-
  Slices of bytes of one's own. No statement of the seat is proved here.
-/
namespace Go.Proofs.YtmibjgkakolhiaaDoor
open Go.RowKit

/-- A slice of one's own that holds these bytes. -/
structure Ow (u : World) (g n : Nat) (l : List Int) : Prop where
  own : ∃ base, u.ownsRow base 5 1 (.slice (some ⟨g, 0, none⟩) n n) n (List.map (Value.int .u8) l)
  byt : Byt l
set_option maxRecDepth 8000 in
theorem Ow.len {u : World} {g n : Nat} {l : List Int} (h : Ow u g n l) : l.length = n := by obtain ⟨_, h⟩ := h.own; simpa using h.1
set_option maxRecDepth 8000 in
theorem Ow.lt {u : World} {g n : Nat} {l : List Int} (h : Ow u g n l) : g < u.heap.size := by obtain ⟨_, h⟩ := h.own; exact (h.lt g (by simp [Value.ownBlock])).2
set_option maxRecDepth 8000 in
theorem Ow.later {u v : World} {g n : Nat} {l : List Int} (h : Ow u g n l) (hb : Below u.heap.size u v) : Ow v g n l := ⟨by obtain ⟨b, h⟩ := h.own; exact ⟨b, owns_later h hb⟩, h.byt⟩
set_option maxRecDepth 8000 in
theorem Ow.rd {u : World} {g n : Nat} {l : List Int} (h : Ow u g n l) : Rd u (some ⟨g, 0, none⟩) n n l := by obtain ⟨_, h'⟩ := h.own; exact Rd.owns h.byt h'
set_option maxRecDepth 8000 in
theorem Ow.cell {u : World} {g n : Nat} {l : List Int} (h : Ow u g n l) (k : Nat) (hk : k < n) : ∃ v, u.cell? ⟨g, k, none⟩ = some (.int .u8 v) ∧ u.frozen? ⟨g, k, none⟩ = false ∧ l[k]? = some v ∧ 0 ≤ v ∧ v ≤ 255 := by
  obtain ⟨_, h'⟩ := h.own
  obtain ⟨v, h1, h2⟩ := bytes_own h' k hk
  exact ⟨v, h1, World.ownsRow.frozenAt h' k, h2, h.byt v (List.mem_of_getElem? h2)⟩
set_option maxRecDepth 8000 in
theorem Ow.set {u : World} {g n : Nat} {l : List Int} (h : Ow u g n l) (k : Nat) {v : Int} (h0 : 0 ≤ v) (h1 : v ≤ 255) : Ow (u.setCell ⟨g, k, none⟩ (.int .u8 v)) g n (l.set k v) := ⟨by
  obtain ⟨b, h'⟩ := h.own
  refine ⟨b, ?_⟩
  rw [List.map_set]
  exact (h'.stored k _).1, byt_set h.byt k h0 h1⟩
set_option maxRecDepth 8000 in
theorem Ow.else {u : World} {g n : Nat} {l : List Int} (h : Ow u g n l) (c k : Nat) (hc : g ≠ c) (v : Value) : Ow (u.setCell ⟨c, k, none⟩ v) g n l := ⟨by
  obtain ⟨b, h'⟩ := h.own
  exact ⟨b, h'.kept (w' := u.setCell ⟨c, k, none⟩ v) (row := some c) ⟨rfl, rfl, rfl, by simp, fun i hi hne => Below.heap_setCell _ _ _ _ (fun e => hne (by simp [e]))⟩ (.inr (by simp [Value.ownBlock]; exact fun e => hc e))⟩, h.byt⟩
set_option maxRecDepth 8000 in
theorem wpAnyH_mono {P : Program} {md : Region.Mode} {ops : Array Oper} {Q : Exit → Act → World → Prop} {S S' : World → Prop} (hS : ∀ u, S' u → S u) :
    ∀ {fuel : Nat} {listed : Array Bool} {a : Act} {w : World}, wpAnyH P md ops Q S' fuel listed a w → wpAnyH P md ops Q S fuel listed a w
  | 0, _, _, _, h => h
  | _ + 1, _, _, _, h => ⟨h.1, fun i hi => wpOp_mono (fun _ _ h' => ⟨hS _ h'.1, wpAnyH_mono hS h'.2⟩) (h.2 i hi)⟩
set_option maxRecDepth 8000 in
theorem str_of {w : World} {a : Option Addr} {len cap : Nat} {l : List Int} (h : Rd w a len cap l) : (convert 35 9 (.slice a len cap)).run Tryd.prog w = .ok (.string (strOfNums l)) w := h.str _ 5 _ Tryd.underlying35 Tryd.underlying5 Tryd.underlying9
set_option maxRecDepth 8000 in
theorem xorL_self : ∀ {a : List Int}, Byt a → xorL a a = List.replicate a.length 0
  | [], _ => rfl
  | x :: a, h => by
    have hx := h x (by simp)
    have e := xorL_self (a := a) (fun y hy => h y (List.mem_cons_of_mem _ hy))
    unfold xorL at e ⊢
    rw [List.zipWith_cons_cons, e, List.length_cons, List.replicate_succ, (xor8 x x hx hx).2.2.2 rfl]
end Go.Proofs.YtmibjgkakolhiaaDoor
