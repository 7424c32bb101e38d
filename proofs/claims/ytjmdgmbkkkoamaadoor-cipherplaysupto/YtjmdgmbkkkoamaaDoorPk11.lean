/-
  Several texts of one's own, laid together. No statement of the seat is proved here.
-/
import Derived.Test.YtjmdgmbkkkoamaaDoorPk3
import Derived.Lib.SlBytesConst
import Derived.Test.YtjmdgmbkkkoamaaDoorPk10
/-
  What portholehand's Pick and Bytes do: a number within bounds, so many bytes. No statement of the seat is proved here.
-/
namespace Go.Proofs.YtjmdgmbkkkoamaaDoor
open Go.RowKit

set_option maxRecDepth 8000 in
set_option maxHeartbeats 1000000 in
theorem pick_any (n m : Int) (hn : -9223372036854775808 ≤ n ∧ n ≤ 9223372036854775807) (hm : 1 ≤ m ∧ m ≤ 1000) (w : World) :
    Calls Tryd.prog 6 #[.int .i64 n, .int .i64 m] w fun e w' => ∃ k, e = .returned (.int .i64 k) ∧ 0 ≤ k ∧ k < m ∧ w' = w := by
  obtain ⟨n0, n1⟩ := hn
  obtain ⟨m0, m1⟩ := hm
  have hl : n.tmod m < m := Int.tmod_lt_of_pos n (by omega)
  have hg : -m < n.tmod m := by
    have := Int.lt_tmod_of_pos n (show 0 < m by omega)
    omega
  by_cases h : 0 ≤ n.tmod m
  · go_enter Tryd.func6, Tryd.ntmps6
    go_wp2
    go_ret
    exact ⟨_, rfl, h, hl, rfl⟩
  · go_enter Tryd.func6, Tryd.ntmps6
    go_wp2
    go_ret
    exact ⟨_, rfl, by omega, by omega, rfl⟩
set_option maxRecDepth 8000 in
/-- A make at a step of a region that draws its order, where what it makes is known. -/
theorem step_make_run {P : Program} {ops : Array Oper} {o : Oper} {a : Act} {w : World} {K : Act → World → Prop} {Q : Exit → Act → World → Prop} {E : Prop} (hgd : Region.wanted o (yielded ops a.tmps) = true) (l c : Operand) (t : TypeId)
    (ho : o.op = Op.makeSlice t l c) (v1 v2 : Value) (hs : a.eval l = v1) (hx : a.eval c = v2) (v : Value) (w' : World)
    (hr : (Instr.makeSlice t v1 v2).run P w = .ok v w') (h : K (a.put o.dst v) w') : if Region.wanted o (yielded ops a.tmps) = true then Oper.wp P o a w K Q else E := by
  rw [if_pos hgd]
  unfold Oper.wp
  simp [execOp, ho, hs, hx, hr, Result.andThen]
  exact h
set_option maxRecDepth 8000 in
theorem bytes_own {w : World} {base g n c : Nat} {e : TypeId} {l : List Int} (h : w.ownsRow base e 1 (.slice (some ⟨g, 0, none⟩) n c) n (List.map (Value.int .u8) l)) (k : Nat) (hk : k < n) : ∃ v, w.cell? ⟨g, k, none⟩ = some (.int .u8 v) ∧ l[k]? = some v := by
  have hl : l.length = n := by simpa using h.1
  refine ⟨l[k]'(by omega), ?_, List.getElem?_eq_getElem _⟩
  rw [World.ownsRow.cellAt h k (by omega), List.getElem?_map, List.getElem?_eq_getElem (by omega)]
  rfl
set_option maxRecDepth 8000 in
theorem byt_set {l : List Int} (h : Byt l) (k : Nat) {x : Int} (h0 : 0 ≤ x) (h1 : x ≤ 255) : Byt (l.set k x) := fun y hy => by
  rcases List.mem_or_eq_of_mem_set hy with hy | rfl
  · exact h y hy
  · exact ⟨h0, h1⟩
set_option maxRecDepth 8000 in
theorem byt_zero (n : Nat) : Byt (List.replicate n 0) := fun x hx => by rw [(List.mem_replicate.1 hx).2]; decide
set_option maxRecDepth 8000 in
theorem made_zero (n : Nat) : (madeCells (Value.int .u8 0).cells (n * 1)).toList = List.map (Value.int .u8) (List.replicate n 0) := by
  have := toList_madeCells_one (.int .u8 0) n
  rw [List.map_replicate, ← this]
  simp [Value.cells]

end Go.Proofs.YtjmdgmbkkkoamaaDoor
/-
  Slices of bytes of one's own. No statement of the seat is proved here.
-/
namespace Go.Proofs.YtjmdgmbkkkoamaaDoor
open Go.RowKit

/-- A slice of one's own that holds these bytes. -/
structure Ow (u : World) (g n : Nat) (l : List Int) : Prop where
  own : ∃ base, u.ownsRow base 5 1 (.slice (some ⟨g, 0, none⟩) n n) n (List.map (Value.int .u8) l)
  byt : Byt l
set_option maxRecDepth 8000 in
theorem Ow.len {u : World} {g n : Nat} {l : List Int} (h : Ow u g n l) : l.length = n := by obtain ⟨_, h⟩ := h.own; simpa using h.1
set_option maxRecDepth 8000 in
theorem Ow.lt {u : World} {g n : Nat} {l : List Int} (h : Ow u g n l) : g < u.heap.size := by obtain ⟨_, h⟩ := h.own; exact (h.lt g (by simp [Value.ownBlock])).2
set_option maxRecDepth 8000 in
theorem Ow.later {u v : World} {g n : Nat} {l : List Int} (h : Ow u g n l) (hb : Below u.heap.size u v) : Ow v g n l := ⟨by obtain ⟨b, h⟩ := h.own; exact ⟨b, owns_later h hb⟩, h.byt⟩
set_option maxRecDepth 8000 in
theorem Ow.rd {u : World} {g n : Nat} {l : List Int} (h : Ow u g n l) : Rd u (some ⟨g, 0, none⟩) n n l := by obtain ⟨_, h'⟩ := h.own; exact Rd.owns h.byt h'
set_option maxRecDepth 8000 in
theorem Ow.cell {u : World} {g n : Nat} {l : List Int} (h : Ow u g n l) (k : Nat) (hk : k < n) : ∃ v, u.cell? ⟨g, k, none⟩ = some (.int .u8 v) ∧ u.frozen? ⟨g, k, none⟩ = false ∧ l[k]? = some v ∧ 0 ≤ v ∧ v ≤ 255 := by
  obtain ⟨_, h'⟩ := h.own
  obtain ⟨v, h1, h2⟩ := bytes_own h' k hk
  exact ⟨v, h1, World.ownsRow.frozenAt h' k, h2, h.byt v (List.mem_of_getElem? h2)⟩
set_option maxRecDepth 8000 in
theorem Ow.set {u : World} {g n : Nat} {l : List Int} (h : Ow u g n l) (k : Nat) {v : Int} (h0 : 0 ≤ v) (h1 : v ≤ 255) : Ow (u.setCell ⟨g, k, none⟩ (.int .u8 v)) g n (l.set k v) := ⟨by
  obtain ⟨b, h'⟩ := h.own
  refine ⟨b, ?_⟩
  rw [List.map_set]
  exact (h'.stored k _).1, byt_set h.byt k h0 h1⟩
set_option maxRecDepth 8000 in
theorem Ow.else {u : World} {g n : Nat} {l : List Int} (h : Ow u g n l) (c k : Nat) (hc : g ≠ c) (v : Value) : Ow (u.setCell ⟨c, k, none⟩ v) g n l := ⟨by
  obtain ⟨b, h'⟩ := h.own
  exact ⟨b, h'.kept (w' := u.setCell ⟨c, k, none⟩ v) (row := some c) ⟨rfl, rfl, rfl, by simp, fun i hi hne => Below.heap_setCell _ _ _ _ (fun e => hne (by simp [e]))⟩ (.inr (by simp [Value.ownBlock]; exact fun e => hc e))⟩, h.byt⟩
set_option maxRecDepth 8000 in
theorem wpAnyH_mono {P : Program} {md : Region.Mode} {ops : Array Oper} {Q : Exit → Act → World → Prop} {S S' : World → Prop} (hS : ∀ u, S' u → S u) :
    ∀ {fuel : Nat} {listed : Array Bool} {a : Act} {w : World}, wpAnyH P md ops Q S' fuel listed a w → wpAnyH P md ops Q S fuel listed a w
  | 0, _, _, _, h => h
  | _ + 1, _, _, _, h => ⟨h.1, fun i hi => wpOp_mono (fun _ _ h' => ⟨hS _ h'.1, wpAnyH_mono hS h'.2⟩) (h.2 i hi)⟩
set_option maxRecDepth 8000 in
theorem str_of {w : World} {a : Option Addr} {len cap : Nat} {l : List Int} (h : Rd w a len cap l) : (convert 31 9 (.slice a len cap)).run Tryd.prog w = .ok (.string (strOfNums l)) w := h.str _ 5 _ Tryd.underlying31 Tryd.underlying5 Tryd.underlying9
set_option maxRecDepth 8000 in
theorem xorL_self : ∀ {a : List Int}, Byt a → xorL a a = List.replicate a.length 0
  | [], _ => rfl
  | x :: a, h => by
    have hx := h x (by simp)
    have e := xorL_self (a := a) (fun y hy => h y (List.mem_cons_of_mem _ hy))
    unfold xorL at e ⊢
    rw [List.zipWith_cons_cons, e, List.length_cons, List.replicate_succ, (xor8 x x hx hx).2.2.2 rfl]
end Go.Proofs.YtjmdgmbkkkoamaaDoor
/-
  Constant texts and arrays of bytes that are compared. No statement of the seat is proved here.
-/
namespace Go.Proofs.YtjmdgmbkkkoamaaDoor
open Go.RowKit

set_option maxRecDepth 8000 in
theorem byt5 (l : List Int) (h : l.all (fun x => decide (0 ≤ x) && decide (x ≤ 255)) = true) : Byt l := by
  intro x hx
  have := List.all_eq_true.1 h x hx
  simp only [Bool.and_eq_true, decide_eq_true_eq] at this
  exact this
set_option maxRecDepth 8000 in
theorem rd_mark (w : World) (l : List Int) (hb : Byt l) (t : TypeId) (fz : Nat × Nat) (cap : Nat) (hc : l.length ≤ cap) (cs : Array Value) (hcs : ∀ i, i < l.length → cs[i]? = some (.int .u8 (l[i]?.getD 0))) : Rd (w.alloc (.cells cs t fz)) (some ⟨w.heap.size, 0, none⟩) l.length cap l :=
  ⟨rfl, hc, (fun h => by cases h), hb, fun _ => ⟨w.heap.size, 0, rfl, fun i hi => by
    rw [Nat.zero_add, cell_of_row _ _ _ _ _ _ (heap_alloc_new w _)]
    exact hcs i hi⟩⟩
set_option maxRecDepth 8000 in
theorem map_cells (l : List Int) : ∀ i, i < l.length → (List.map (Value.int .u8) l).toArray[i]? = some (.int .u8 (l[i]?.getD 0)) := fun i hi => by simp [List.getElem?_eq_getElem hi]
set_option maxRecDepth 8000 in
theorem pbytes_of : ∀ (l : List Int), Byt l → ∃ xs : List UInt8, xs.length = l.length ∧ l.map (Value.int .u8) = xs.map Extern.Stop.cell
  | [], _ => ⟨[], rfl, rfl⟩
  | x :: l, h => by
    obtain ⟨xs, h1, h2⟩ := pbytes_of l (fun y hy => h y (by simp [hy]))
    have hx := h x (by simp)
    have e : ((UInt8.ofNat x.toNat).toNat : Int) = x := by
      rw [UInt8.toNat_ofNat']
      omega
    refine ⟨UInt8.ofNat x.toNat :: xs, by simp [h1], ?_⟩
    rw [List.map_cons, List.map_cons, h2, Extern.Stop.cell]
    congr 2
    exact e.symm
set_option maxRecDepth 8000 in
theorem eql32 (a b : List Int) (ha : Bn 32 a) (hab : a = b) (w : World) : Sem.run Tryd.prog (binOp .eql 27 (.agg (List.map (Value.int .u8) a).toArray) (.agg (List.map (Value.int .u8) b).toArray)) w = .ok (.bool true) w := by
  subst hab
  obtain ⟨xs, x1, x2⟩ := pbytes_of a ha.byt
  rw [x2, run_eql_bytes (P := Tryd.prog) w 27 5 32 Tryd.underlying27 Tryd.underlying5 (fun _ => by kernel_rfl) xs xs (x1.trans ha.len) (x1.trans ha.len)]
  simp
set_option maxRecDepth 8000 in
theorem neq32 (a b : List Int) (ha : Bn 32 a) (hab : a = b) (w : World) : Sem.run Tryd.prog (binOp .neq 27 (.agg (List.map (Value.int .u8) a).toArray) (.agg (List.map (Value.int .u8) b).toArray)) w = .ok (.bool false) w := by
  subst hab
  obtain ⟨xs, x1, x2⟩ := pbytes_of a ha.byt
  rw [x2, run_neq_struct, run_equalIn_bytes w 9998 27 5 32 Tryd.underlying27 Tryd.underlying5 (fun _ => by kernel_rfl) xs xs (x1.trans ha.len) (x1.trans ha.len)]
  simp [Result.andThen]
end Go.Proofs.YtjmdgmbkkkoamaaDoor
/-
  What cipher's New and a State's Init, Has, Nonce, SetNonce, Key, Copy do. No statement of the seat is proved here.
-/
namespace Go.Proofs.YtjmdgmbkkkoamaaDoor
open Go.RowKit

set_option maxRecDepth 8000 in
theorem cons_of {l : List Int} {n : Nat} (h : l.length = n + 1) : ∃ a r, l = a :: r ∧ r.length = n := by
  cases l with
  | nil => simp at h
  | cons a r => exact ⟨a, r, rfl, by simpa using h⟩
set_option maxRecDepth 8000 in
/-- A State that is written out: its key and has. -/
theorem build_init {l0 : List Int} (h0 : l0.length = 32) (w : World) : Sem.run Tryd.prog (Instr.build 46 #[(0, .agg (List.map (Value.int .u8) l0).toArray), (1, .bool true)]) w = .ok (.agg (sc9 l0 true 0).toArray) w := by
  obtain ⟨a0, l1, rfl, h1⟩ := cons_of h0
  obtain ⟨a1, l2, rfl, h2⟩ := cons_of h1
  obtain ⟨a2, l3, rfl, h3⟩ := cons_of h2
  obtain ⟨a3, l4, rfl, h4⟩ := cons_of h3
  obtain ⟨a4, l5, rfl, h5⟩ := cons_of h4
  obtain ⟨a5, l6, rfl, h6⟩ := cons_of h5
  obtain ⟨a6, l7, rfl, h7⟩ := cons_of h6
  obtain ⟨a7, l8, rfl, h8⟩ := cons_of h7
  obtain ⟨a8, l9, rfl, h9⟩ := cons_of h8
  obtain ⟨a9, l10, rfl, h10⟩ := cons_of h9
  obtain ⟨a10, l11, rfl, h11⟩ := cons_of h10
  obtain ⟨a11, l12, rfl, h12⟩ := cons_of h11
  obtain ⟨a12, l13, rfl, h13⟩ := cons_of h12
  obtain ⟨a13, l14, rfl, h14⟩ := cons_of h13
  obtain ⟨a14, l15, rfl, h15⟩ := cons_of h14
  obtain ⟨a15, l16, rfl, h16⟩ := cons_of h15
  obtain ⟨a16, l17, rfl, h17⟩ := cons_of h16
  obtain ⟨a17, l18, rfl, h18⟩ := cons_of h17
  obtain ⟨a18, l19, rfl, h19⟩ := cons_of h18
  obtain ⟨a19, l20, rfl, h20⟩ := cons_of h19
  obtain ⟨a20, l21, rfl, h21⟩ := cons_of h20
  obtain ⟨a21, l22, rfl, h22⟩ := cons_of h21
  obtain ⟨a22, l23, rfl, h23⟩ := cons_of h22
  obtain ⟨a23, l24, rfl, h24⟩ := cons_of h23
  obtain ⟨a24, l25, rfl, h25⟩ := cons_of h24
  obtain ⟨a25, l26, rfl, h26⟩ := cons_of h25
  obtain ⟨a26, l27, rfl, h27⟩ := cons_of h26
  obtain ⟨a27, l28, rfl, h28⟩ := cons_of h27
  obtain ⟨a28, l29, rfl, h29⟩ := cons_of h28
  obtain ⟨a29, l30, rfl, h30⟩ := cons_of h29
  obtain ⟨a30, l31, rfl, h31⟩ := cons_of h30
  obtain ⟨a31, l32, rfl, h32⟩ := cons_of h31
  obtain rfl := List.eq_nil_of_length_eq_zero h32
  kernel_rfl
set_option maxRecDepth 8000 in
theorem build_none (w : World) : Sem.run Tryd.prog (Instr.build 46 #[]) w = .ok (.agg (sc9 z9l false 0).toArray) w := by kernel_rfl
set_option maxRecDepth 8000 in
theorem new9_c (w : World) :
    Calls Tryd.prog 4 #[] w fun e w' => e = .returned (.pointer (some ⟨w.heap.size, 0, none⟩)) ∧ Hid (Sx w' w.heap.size z9l false 0) ∧ Below w.heap.size w w' := by
  go_enter Tryd.func4, Tryd.ntmps4
  go_wp2
  go_ret
  exact ⟨rfl, sx_new w z9l false 0 z9l_bn (by decide) _, bel1 _ _⟩
set_option maxRecDepth 8000 in
theorem has9_c (b : Nat) (k : List Int) (h : Bool) (n : Int) (w : World) (hs : Sx w b k h n) :
    Calls Tryd.prog 18 #[.pointer (some ⟨b, 0, none⟩)] w fun e w' => e = .returned (.bool h) ∧ w' = w := by
  obtain ⟨ch, -⟩ := hs.has
  go_enter Tryd.func18, Tryd.ntmps18
  go_wp2
  go_ret
  exact ⟨rfl, rfl⟩
set_option maxRecDepth 8000 in
theorem nonce9_c (b : Nat) (k : List Int) (h : Bool) (n : Int) (w : World) (hs : Sx w b k h n) :
    Calls Tryd.prog 17 #[.pointer (some ⟨b, 0, none⟩)] w fun e w' => e = .returned (.int .u64 n) ∧ w' = w := by
  obtain ⟨cn, -⟩ := hs.nonce
  go_enter Tryd.func17, Tryd.ntmps17
  go_wp2
  go_ret
  exact ⟨rfl, rfl⟩
set_option maxRecDepth 8000 in
theorem setn9_c (b : Nat) (k : List Int) (h : Bool) (n m : Int) (hm : 0 ≤ m ∧ m < 18446744073709551616) (w : World) (hs : Sx w b k h n) :
    Calls Tryd.prog 12 #[.pointer (some ⟨b, 0, none⟩), .int .u64 m] w fun e w' => e = .returned (.tuple #[]) ∧ Hid (Sx w' b k h m) ∧ ExtB b w w' := by
  have HS : Hid (Sx w b k h n) := hs
  obtain ⟨cn, fn⟩ := hs.nonce
  clear hs
  go_enter Tryd.func12, Tryd.ntmps12
  go_wp2
  go_end0
  exact ⟨rfl, HS.out.setN hm, (ExtB.refl b w).set 33 _⟩
set_option maxRecDepth 8000 in
theorem key9_c (b : Nat) (k : List Int) (h : Bool) (n : Int) (w : World) (hs : Sx w b k h n) :
    Calls Tryd.prog 16 #[.pointer (some ⟨b, 0, none⟩)] w fun e w' => e = .returned (.agg (List.map (Value.int .u8) k).toArray) ∧ Below w.heap.size w w' := by
  have HS : Hid (Sx w b k h n) := hs
  clear hs
  go_enter Tryd.func16, Tryd.ntmps16
  go_upto_region 1 with fail
  have HD : Hid ((w.alloc (.cells #[.int .u8 0, .int .u8 0, .int .u8 0, .int .u8 0, .int .u8 0, .int .u8 0, .int .u8 0, .int .u8 0, .int .u8 0, .int .u8 0, .int .u8 0, .int .u8 0, .int .u8 0, .int .u8 0, .int .u8 0, .int .u8 0, .int .u8 0, .int .u8 0, .int .u8 0, .int .u8 0, .int .u8 0, .int .u8 0, .int .u8 0, .int .u8 0, .int .u8 0, .int .u8 0, .int .u8 0, .int .u8 0, .int .u8 0, .int .u8 0, .int .u8 0, .int .u8 0] 27)).there w.heap.size 0 32) := by unfold Hid; exact there_new _ 32 _ rfl _
  have HB : Hid (Below w.heap.size w (w.alloc (.cells #[.int .u8 0, .int .u8 0, .int .u8 0, .int .u8 0, .int .u8 0, .int .u8 0, .int .u8 0, .int .u8 0, .int .u8 0, .int .u8 0, .int .u8 0, .int .u8 0, .int .u8 0, .int .u8 0, .int .u8 0, .int .u8 0, .int .u8 0, .int .u8 0, .int .u8 0, .int .u8 0, .int .u8 0, .int .u8 0, .int .u8 0, .int .u8 0, .int .u8 0, .int .u8 0, .int .u8 0, .int .u8 0, .int .u8 0, .int .u8 0, .int .u8 0, .int .u8 0] 27))) := bel1 _ _
  obtain ⟨W0, hW0⟩ : ∃ W, W = (w.alloc (.cells #[.int .u8 0, .int .u8 0, .int .u8 0, .int .u8 0, .int .u8 0, .int .u8 0, .int .u8 0, .int .u8 0, .int .u8 0, .int .u8 0, .int .u8 0, .int .u8 0, .int .u8 0, .int .u8 0, .int .u8 0, .int .u8 0, .int .u8 0, .int .u8 0, .int .u8 0, .int .u8 0, .int .u8 0, .int .u8 0, .int .u8 0, .int .u8 0, .int .u8 0, .int .u8 0, .int .u8 0, .int .u8 0, .int .u8 0, .int .u8 0, .int .u8 0, .int .u8 0] 27)) := ⟨_, rfl⟩
  obtain ⟨q2, hq2⟩ : ∃ q, q = w.heap.size := ⟨_, rfl⟩
  rw [← hW0] at HD HB ⊢
  have HQ : Hid (q2 = w.heap.size) := hq2
  rw [← hq2] at HD ⊢
  clear hW0 hq2
  replace HS : Hid (Sx W0 b k h n) := HS.out.later HB.out
  obtain ⟨hlen', hone, hi⟩ := bn32_cells HS.out.bk
  have hR := HS.out.key
  obtain ⟨cs, hcs⟩ : ∃ cs, cs = (List.map (Value.int .u8) k) := ⟨_, rfl⟩
  have HC : Hid (cs = (List.map (Value.int .u8) k)) := hcs
  rw [← hcs] at hlen' hone hi hR
  clear hcs
  have hth := HD.out
  go_wp2_with (first
    | (refine wpList_load_mid rfl 27 (.tmp 5) rfl b 0 rfl cs _ hR Tryd.underlying27 rfl hi ?_)
    | (refine wpList_store_mid rfl 27 (.tmp 2) (.tmp 6) rfl q2 0 cs.toArray rfl rfl (by simpa [hlen'] using hth) (by simpa using hi) (all_oneCell_toArray hone) ?_))
  have HR2 : Hid ((W0.setCells q2 0 cs).rangeAt q2 0 cs) := World.rangeAt_setCells_same _ _ _ _ (by rw [hlen']; exact hth)
  have hld := run_loadVar_mid (P := Tryd.prog) _ _ 0 27 _ _ HR2.out Tryd.underlying27 rfl hi
  exact bodyPost_ret (v := .agg cs.toArray) (by simp [results, Tryd.results16]; exact hld) rfl ⟨by rw [HC.out], below_setCells _ (by have := HQ.out; omega) _ _ _ HB.out⟩

set_option maxRecDepth 8000 in
theorem wpList_build9 {ops : Array Oper} {rest : List Oper} {o : Oper} {a : Act} {w : World} {Q : Exit → Act → World → Prop} (hgd : o.guard = none) (ho : o.op = Op.build 46 #[(0, .tmp 5), (1, .const (.bool true))]) (x v : Value) (hx : a.eval (.tmp 5) = x)
    (hr : Sem.run Tryd.prog (Instr.build 46 #[(0, x), (1, .bool true)]) w = .ok v w) (h : wpList Tryd.prog ops Q rest (a.put o.dst v) w) : wpList Tryd.prog ops Q (o :: rest) a w := by
  refine wpList_plain hgd fun K hK => ?_
  have e : (execOp a.eval o).run Tryd.prog w = .ok (.value v) w := by
    unfold execOp
    rw [ho]
    have e1 : Array.map (fun x : Nat × Operand => match x with | (i, x) => (i, a.eval x)) #[(0, Operand.tmp 5), (1, Operand.const (Value.bool true))] = #[(0, x), (1, .bool true)] := by
      rw [← hx]
      simp [Act.eval]
    show Sem.run Tryd.prog (do let r ← Instr.build 46 (Array.map (fun x : Nat × Operand => match x with | (i, x) => (i, a.eval x)) #[(0, Operand.tmp 5), (1, Operand.const (Value.bool true))]); pure (Next.value r)) w = _
    rw [e1, Sem.run_bind, hr]
    rfl
  unfold Oper.wp
  rw [e]
  exact hK _ _ h
set_option maxRecDepth 8000 in
set_option maxHeartbeats 2000000 in
theorem init9_c (b : Nat) (k : List Int) (h : Bool) (n : Int) (key : List Int) (hk : Bn 32 key) (w : World) (hs : Sx w b k h n) :
    Calls Tryd.prog 13 #[.pointer (some ⟨b, 0, none⟩), (.agg (List.map (Value.int .u8) key).toArray)] w fun e w' => e = .returned (.tuple #[]) ∧ Hid (Sx w' b key true 0) ∧ ExtB b w w' := by
  have HS : Hid (Sx w b k h n) := hs
  have HK : Hid (Bn 32 key) := hk
  clear hs hk
  go_enter Tryd.func13, Tryd.ntmps13
  go_upto_region 1 with fail
  have AK : Hid (Ar (w.alloc (.cells (List.map (Value.int .u8) key).toArray 27)) w.heap.size 32 (List.map (Value.int .u8) key)) := ar_box w _ 32 HK.out.map_len _
  have HB : Hid (Below w.heap.size w (w.alloc (.cells (List.map (Value.int .u8) key).toArray 27))) := bel1 _ _
  have HE : Hid (ExtB b w (w.alloc (.cells (List.map (Value.int .u8) key).toArray 27))) := (ExtB.refl b w).alloc _
  obtain ⟨W0, hW0⟩ : ∃ W, W = (w.alloc (.cells (List.map (Value.int .u8) key).toArray 27)) := ⟨_, rfl⟩
  obtain ⟨q3, hq3⟩ : ∃ q, q = w.heap.size := ⟨_, rfl⟩
  rw [← hW0] at AK HB HE ⊢
  rw [← hq3] at AK ⊢
  clear hW0 hq3
  replace HS : Hid (Sx W0 b k h n) := HS.out.later HB.out
  obtain ⟨_, _, hi⟩ := bn32_cells HK.out
  obtain ⟨hlen', hone, hic⟩ := sc9_cells true 0 HK.out
  have hb9 := build_init HK.out.len W0
  have hth := HS.out.ar.all
  obtain ⟨cs, hcs⟩ : ∃ cs, cs = (sc9 key true 0) := ⟨_, rfl⟩
  have HC : Hid (cs = (sc9 key true 0)) := hcs
  rw [← hcs] at hlen' hone hic hb9
  clear hcs
  go_wp2_with (first
    | (refine wpList_load_mid rfl 27 (.tmp 3) rfl q3 0 rfl (List.map (Value.int .u8) key) _ AK.out.rng Tryd.underlying27 rfl hi ?_)
    | (refine wpList_build9 rfl rfl (.agg (List.map (Value.int .u8) key).toArray) (.agg cs.toArray) rfl hb9 ?_)
    | (refine wpList_store_mid rfl 46 (.tmp 7) (.tmp 6) rfl b 0 cs.toArray rfl rfl (by simpa [hlen'] using hth) (by simpa using hic) (all_oneCell_toArray hone) ?_))
  go_end0
  exact ⟨rfl, by rw [HC.out]; exact HS.out.setAll HK.out true (by decide), HE.out.comp (extB_setCells _ _ _ (ExtB.refl b _))⟩
set_option maxRecDepth 8000 in
theorem zero_state (w : World) : Sem.run Tryd.prog (zeroValue 46) w = .ok (.agg (sc9 z9l false 0).toArray) w := by kernel_rfl
set_option maxRecDepth 8000 in
set_option maxHeartbeats 2000000 in
theorem copy9_c (b : Nat) (k : List Int) (h : Bool) (n : Int) (w : World) (hs : Sx w b k h n) :
    Calls Tryd.prog 15 #[.pointer (some ⟨b, 0, none⟩)] w fun e w' => e = .returned (.pointer (some ⟨w.heap.size, 0, none⟩)) ∧ Hid (Sx w' w.heap.size k h n) ∧ Below w.heap.size w w' := by
  have HS : Hid (Sx w b k h n) := hs
  clear hs
  obtain ⟨hlen', hone, hic⟩ := sc9_cells h n HS.out.bk
  have hR := HS.out.ar.rng
  obtain ⟨cs, hcs⟩ : ∃ cs, cs = (sc9 k h n) := ⟨_, rfl⟩
  have HC : Hid (cs = (sc9 k h n)) := hcs
  rw [← hcs] at hlen' hone hic hR
  clear hcs
  have hzero := zero_state
  have e34 : cs.toArray.size = 34 := by simpa using hlen'
  go_enter Tryd.func15, Tryd.ntmps15
  go_wp2_with (first
    | (refine wpList_load_mid rfl 46 (.tmp 5) rfl b 0 rfl cs _ hR Tryd.underlying46 rfl hic ?_)
    | (refine wpList_store_mid rfl 46 (.tmp 3) (.tmp 6) rfl w.heap.size 0 cs.toArray rfl rfl (by rw [e34]; refine there_new w 34 _ ?_ _; rfl) (by simpa using hic) (all_oneCell_toArray hone) ?_))
  go_ret
  refine ⟨rfl, ⟨by rw [← HC.out]; exact ar_var w _ 34 rfl _ _ hlen', HS.out.bk, HS.out.wn⟩, bel_var _ _ _ _⟩
end Go.Proofs.YtjmdgmbkkkoamaaDoor
