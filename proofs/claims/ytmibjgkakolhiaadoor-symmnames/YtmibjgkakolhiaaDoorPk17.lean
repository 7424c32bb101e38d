/-
  Several texts of one's own, laid together. No statement of the seat is proved here.
-/
import Derived.Test.YtmibjgkakolhiaaDoorPk16
import Derived.Lib.SlBytesConst
import Derived.Lib.ConvBytes
import Derived.Lib.LazyBuf
/-
  Slices of bytes of one's own. No statement of the seat is proved here.
-/
namespace Go.Proofs.YtmibjgkakolhiaaDoor
open Go.RowKit

/-- A slice of one's own that holds these bytes. -/
structure Ow (u : World) (g n : Nat) (l : List Int) : Prop where
  own : ∃ base, u.ownsRow base 5 1 (.slice (some ⟨g, 0, none⟩) n n) n (List.map (Value.int .u8) l)
  byt : Byt l
set_option maxRecDepth 8000 in
theorem Ow.len {u : World} {g n : Nat} {l : List Int} (h : Ow u g n l) : l.length = n := by obtain ⟨_, h⟩ := h.own; simpa using h.1
set_option maxRecDepth 8000 in
theorem Ow.lt {u : World} {g n : Nat} {l : List Int} (h : Ow u g n l) : g < u.heap.size := by obtain ⟨_, h⟩ := h.own; exact (h.lt g (by simp [Value.ownBlock])).2
set_option maxRecDepth 8000 in
theorem Ow.later {u v : World} {g n : Nat} {l : List Int} (h : Ow u g n l) (hb : Below u.heap.size u v) : Ow v g n l := ⟨by obtain ⟨b, h⟩ := h.own; exact ⟨b, owns_later h hb⟩, h.byt⟩
set_option maxRecDepth 8000 in
theorem Ow.rd {u : World} {g n : Nat} {l : List Int} (h : Ow u g n l) : Rd u (some ⟨g, 0, none⟩) n n l := by obtain ⟨_, h'⟩ := h.own; exact Rd.owns h.byt h'
set_option maxRecDepth 8000 in
theorem Ow.cell {u : World} {g n : Nat} {l : List Int} (h : Ow u g n l) (k : Nat) (hk : k < n) : ∃ v, u.cell? ⟨g, k, none⟩ = some (.int .u8 v) ∧ u.frozen? ⟨g, k, none⟩ = false ∧ l[k]? = some v ∧ 0 ≤ v ∧ v ≤ 255 := by
  obtain ⟨_, h'⟩ := h.own
  obtain ⟨v, h1, h2⟩ := bytes_own h' k hk
  exact ⟨v, h1, World.ownsRow.frozenAt h' k, h2, h.byt v (List.mem_of_getElem? h2)⟩
set_option maxRecDepth 8000 in
theorem Ow.set {u : World} {g n : Nat} {l : List Int} (h : Ow u g n l) (k : Nat) {v : Int} (h0 : 0 ≤ v) (h1 : v ≤ 255) : Ow (u.setCell ⟨g, k, none⟩ (.int .u8 v)) g n (l.set k v) := ⟨by
  obtain ⟨b, h'⟩ := h.own
  refine ⟨b, ?_⟩
  rw [List.map_set]
  exact (h'.stored k _).1, byt_set h.byt k h0 h1⟩
set_option maxRecDepth 8000 in
theorem Ow.else {u : World} {g n : Nat} {l : List Int} (h : Ow u g n l) (c k : Nat) (hc : g ≠ c) (v : Value) : Ow (u.setCell ⟨c, k, none⟩ v) g n l := ⟨by
  obtain ⟨b, h'⟩ := h.own
  exact ⟨b, h'.kept (w' := u.setCell ⟨c, k, none⟩ v) (row := some c) ⟨rfl, rfl, rfl, by simp, fun i hi hne => Below.heap_setCell _ _ _ _ (fun e => hne (by simp [e]))⟩ (.inr (by simp [Value.ownBlock]; exact fun e => hc e))⟩, h.byt⟩
set_option maxRecDepth 8000 in
theorem wpAnyH_mono {P : Program} {md : Region.Mode} {ops : Array Oper} {Q : Exit → Act → World → Prop} {S S' : World → Prop} (hS : ∀ u, S' u → S u) :
    ∀ {fuel : Nat} {listed : Array Bool} {a : Act} {w : World}, wpAnyH P md ops Q S' fuel listed a w → wpAnyH P md ops Q S fuel listed a w
  | 0, _, _, _, h => h
  | _ + 1, _, _, _, h => ⟨h.1, fun i hi => wpOp_mono (fun _ _ h' => ⟨hS _ h'.1, wpAnyH_mono hS h'.2⟩) (h.2 i hi)⟩
set_option maxRecDepth 8000 in
theorem str_of {w : World} {a : Option Addr} {len cap : Nat} {l : List Int} (h : Rd w a len cap l) : (convert 35 9 (.slice a len cap)).run Tryd.prog w = .ok (.string (strOfNums l)) w := h.str _ 5 _ Tryd.underlying35 Tryd.underlying5 Tryd.underlying9
set_option maxRecDepth 8000 in
theorem xorL_self : ∀ {a : List Int}, Byt a → xorL a a = List.replicate a.length 0
  | [], _ => rfl
  | x :: a, h => by
    have hx := h x (by simp)
    have e := xorL_self (a := a) (fun y hy => h y (List.mem_cons_of_mem _ hy))
    unfold xorL at e ⊢
    rw [List.zipWith_cons_cons, e, List.length_cons, List.replicate_succ, (xor8 x x hx hx).2.2.2 rfl]
end Go.Proofs.YtmibjgkakolhiaaDoor
/-
  Rows of constant texts, in whatever world: what the mark that such a row gets leaves as it is. No statement of the seat is proved here.
-/
namespace Go.Proofs.YtmibjgkakolhiaaDoor
open Go.RowKit

set_option maxRecDepth 8000 in
theorem frz_cell (u : World) (p : Addr) (n : Nat) (a : Addr) : (u.freeze p n).cell? a = u.cell? a := by
  unfold World.freeze
  split
  · rfl
  · unfold World.cell?
    simp only [Array.getElem?_modify]
    by_cases h : p.block = a.block
    · rw [if_pos h]
      cases hc : u.heap[a.block]? with
      | none => rfl
      | some o => cases o <;> rfl
    · rw [if_neg h]
set_option maxRecDepth 8000 in
theorem Rd.frz {u : World} {a : Option Addr} {len cap : Nat} {l : List Int} (h : Rd u a len cap l) (p : Addr) (n : Nat) : Rd (u.freeze p n) a len cap l :=
  ⟨h.hlen, h.hle, h.hnil, h.byt, fun h0 => by
    obtain ⟨b, off, ha, hc⟩ := h.cell h0
    exact ⟨b, off, ha, fun i hi => by rw [frz_cell]; exact hc i hi⟩⟩
set_option maxRecDepth 8000 in
theorem ext_frz {W u : World} (h : Ext W u) (b k : Nat) (hb : W.heap.size ≤ b) : Ext W (u.freeze ⟨b, k, none⟩ 1) := by
  refine Below.trans h ?_
  unfold World.freeze
  rw [if_neg (by decide)]
  exact ⟨rfl, rfl, rfl, by simp, fun i hi => by
    simp only [Array.getElem?_modify]
    rw [if_neg (by omega)]⟩
/-- A literal's row that bears no mark yet. -/
def Lt (u : World) (b : Nat) (l : List Int) : Prop := u.heap[b]? = some (.cells (List.map (Value.int .u8) l).toArray 5)
set_option maxRecDepth 8000 in
theorem Lt.lt {u : World} {b : Nat} {l : List Int} (h : Lt u b l) : b < u.heap.size := by
  unfold Lt at h
  exact (Array.getElem?_eq_some_iff.1 h).1
set_option maxRecDepth 8000 in
theorem Lt.later {u v : World} {b : Nat} {l : List Int} (h : Lt u b l) (hb : Below u.heap.size u v) : Lt v b l := by
  unfold Lt
  rw [hb.block b h.lt]
  exact h
set_option maxRecDepth 8000 in
theorem Lt.frz {u : World} {b : Nat} {l : List Int} (h : Lt u b l) (c k n : Nat) (hne : b ≠ c) : Lt (u.freeze ⟨c, k, none⟩ n) b l := by
  unfold Lt World.freeze
  split
  · exact h
  · simp only [Array.getElem?_modify]
    rw [if_neg (fun e => hne e.symm)]
    exact h
set_option maxRecDepth 8000 in
theorem lt_new (u : World) (l : List Int) : Lt (u.alloc (.cells (List.map (Value.int .u8) l).toArray 5)) u.heap.size l := heap_alloc_new u _
set_option maxRecDepth 8000 in
theorem Lt.rd {u : World} {b : Nat} {l : List Int} (h : Lt u b l) (hb : Byt l) (cap : Nat) (hc : l.length ≤ cap) : Rd u (some ⟨b, 0, none⟩) l.length cap l :=
  ⟨rfl, hc, (fun h => by cases h), hb, fun _ => ⟨b, 0, rfl, fun i hi => by
    rw [Nat.zero_add, cell_of_row _ _ _ _ _ _ h]
    simp [List.getElem?_eq_getElem hi]⟩⟩
set_option maxRecDepth 8000 in
theorem conv_mark (u : World) (b : Nat) (l : List Int) (n c : Nat) (h : Lt u b l) : (convert 35 35 (.slice (some ⟨b, 0, none⟩) n c)).run Tryd.prog u = .ok (.slice (some ⟨b, 0, none⟩) n c) (u.freeze ⟨b, l.length, none⟩ 1) := by
  have hsh : u.shape? b = some (5, l.length) := by
    unfold World.shape?
    rw [h]
    simp
  simp [convert, run_underlying (P := Tryd.prog) Tryd.underlying35, run_underlying (P := Tryd.prog) Tryd.underlying5, markStringish, hsh]
set_option maxRecDepth 8000 in
/-- A step that several ways come to, in several worlds. -/
theorem cut2 {F G : World → Nat → List Int → Prop} {β : Prop} (h : (∀ u x N, F u x N → G u x N) → β) (hr : ∀ u x N, F u x N → G u x N) : β := h hr
set_option maxRecDepth 8000 in
theorem cut3 {F G : World → Nat → Nat → List Int → Prop} {β : Prop} (h : (∀ u x y N, F u x y N → G u x y N) → β) (hr : ∀ u x y N, F u x y N → G u x y N) : β := h hr
set_option maxRecDepth 8000 in
/-- 'make' of so many bytes, in whatever world. -/
theorem make_l (u : World) (k : Nat) (hk : k ≤ 281474976710656) : ∃ V, (Instr.makeSlice 35 (.int .i64 (k : Int)) (.int .i64 (k : Int))).run Tryd.prog u = .ok (.slice (some ⟨u.heap.size, 0, none⟩) k k) V ∧ Ow V u.heap.size k (List.replicate k 0) ∧ Below u.heap.size u V := by
  obtain ⟨i0, hi, hz0, hz1, hz2⟩ := info_parts info5
  obtain ⟨V, hr, ho, hg⟩ := run_make_full (P := Tryd.prog) u u.heap.size 35 5 i0 (.int .u8 0) 1 Tryd.underlying35 hi hz0 hz1 .i64 .i64 k (by rw [hz2]; omega) (by unfold maxLen; omega) (Nat.le_refl _)
  rw [made_zero] at ho
  exact ⟨V, hr, ⟨⟨_, ho⟩, byt_zero k⟩, (Below.refl _ _).grown hg (Nat.le_refl _) (fun k h => by cases h)⟩
end Go.Proofs.YtmibjgkakolhiaaDoor
/-
  Strings as bytes: '[]byte(s)' and a copy of a string's bytes. No statement of the seat is proved here.
-/
namespace Go.Proofs.YtmibjgkakolhiaaDoor
open Go.RowKit

set_option maxRecDepth 8000 in
theorem sd_byt (s : ByteArray) : Byt (sd s) := fun x hx => by
  unfold sd at hx
  obtain ⟨u, _, rfl⟩ := List.mem_map.1 hx
  have := u.toNat_lt
  constructor <;> omega
set_option maxRecDepth 8000 in
theorem sd_len (s : ByteArray) : (sd s).length = s.size := by
  unfold sd
  rw [List.length_map, Array.length_toList]
  rfl
set_option maxRecDepth 8000 in
theorem sd_str {l : List Int} (h : Byt l) : sd (strOfNums l) = l := by
  unfold sd
  rw [strOfNums_data, List.map_map]
  conv => rhs; rw [← List.map_id l]
  apply List.map_congr_left
  intro x hx
  obtain ⟨h0, h1⟩ := h x hx
  show ((UInt8.ofNat x.toNat).toNat : Int) = x
  have : x.toNat < 256 := by omega
  have e : (UInt8.ofNat x.toNat).toNat = x.toNat := by rw [UInt8.toNat_ofNat']; exact Nat.mod_eq_of_lt this
  rw [e]
  omega
set_option maxRecDepth 8000 in
theorem sd_cells (s : ByteArray) : (s.data.toList.map fun x => Value.int .u8 (x.toNat : Int)) = List.map (Value.int .u8) (sd s) := by
  unfold sd
  rw [List.map_map]
  rfl
set_option maxRecDepth 8000 in
/-- '[]byte(s)'. -/
theorem conv_str (s : ByteArray) (w : World) : ∃ c V, (convert 9 35 (.string s)).run Tryd.prog w = .ok (.slice (some ⟨w.heap.size, 0, none⟩) s.size c) V ∧ Rd V (some ⟨w.heap.size, 0, none⟩) s.size c (sd s) ∧ Below w.heap.size w V := by
  refine ⟨_, _, Lib.run_convert_string_bytes (P := Tryd.prog) w 9 35 5 s Tryd.underlying9 Tryd.underlying35 Tryd.underlying5, ⟨sd_len s, ?_, (fun e => by cases e), sd_byt s, fun _ => ⟨w.heap.size, 0, rfl, fun j hj => ?_⟩⟩, ?_⟩
  · exact grownCap_ge _ _ _ _
  · rw [Nat.zero_add, Lib.bytesWorld_cell w 5 s j hj]
    have hj2 : j < s.data.toList.length := by rw [Array.length_toList]; exact hj
    have e : (sd s)[j]? = some ((s.data.toList[j]'hj2).toNat : Int) := by
      unfold sd
      rw [List.getElem?_map, List.getElem?_eq_getElem hj2]
      rfl
    rw [e, List.getD_eq_getElem?_getD, List.getElem?_eq_getElem hj2]
    rfl
  · unfold Lib.bytesWorld
    exact ext_frz ((Ext.refl w).drew.trans (bel1 w.drew _)) _ _ (Nat.le_refl _)
set_option maxRecDepth 8000 in
/-- 'copy' of a string's bytes, all of which have room. -/
theorem copy_str (u : World) (b o dl dc : Nat) (s : ByteArray) (hs : s.size ≤ dl) (ht : u.there b o s.size) (ty : TypeId) :
    Sem.run Tryd.prog (Builtin.copy_ #[35, 9] ty #[.slice (some ⟨b, o, none⟩) dl dc, .string s]) u = .ok (goInt s.size) (u.setCells b o (List.map (Value.int .u8) (sd s))) := by
  have := run_copy_string (P := Tryd.prog) u 35 9 ty 5 b o dl dc s Tryd.underlying35 (fun w => by first | exact run_sizeOf_one w | rfl | kernel_rfl) hs (fun j hj => by obtain ⟨v, h1⟩ := Option.isSome_iff_exists.1 (ht j hj).1; rw [h1]; rfl) (fun j hj => (ht j hj).2)
  rw [sd_cells] at this
  exact this
end Go.Proofs.YtmibjgkakolhiaaDoor
/-
  Constant texts and arrays of bytes that are compared. No statement of the seat is proved here.
-/
namespace Go.Proofs.YtmibjgkakolhiaaDoor
open Go.RowKit

set_option maxRecDepth 8000 in
theorem byt5 (l : List Int) (h : l.all (fun x => decide (0 ≤ x) && decide (x ≤ 255)) = true) : Byt l := by
  intro x hx
  have := List.all_eq_true.1 h x hx
  simp only [Bool.and_eq_true, decide_eq_true_eq] at this
  exact this
set_option maxRecDepth 8000 in
theorem rd_mark (w : World) (l : List Int) (hb : Byt l) (t : TypeId) (fz : Nat × Nat) (cap : Nat) (hc : l.length ≤ cap) (cs : Array Value) (hcs : ∀ i, i < l.length → cs[i]? = some (.int .u8 (l[i]?.getD 0))) : Rd (w.alloc (.cells cs t fz)) (some ⟨w.heap.size, 0, none⟩) l.length cap l :=
  ⟨rfl, hc, (fun h => by cases h), hb, fun _ => ⟨w.heap.size, 0, rfl, fun i hi => by
    rw [Nat.zero_add, cell_of_row _ _ _ _ _ _ (heap_alloc_new w _)]
    exact hcs i hi⟩⟩
set_option maxRecDepth 8000 in
theorem map_cells (l : List Int) : ∀ i, i < l.length → (List.map (Value.int .u8) l).toArray[i]? = some (.int .u8 (l[i]?.getD 0)) := fun i hi => by simp [List.getElem?_eq_getElem hi]
set_option maxRecDepth 8000 in
theorem pbytes_of : ∀ (l : List Int), Byt l → ∃ xs : List UInt8, xs.length = l.length ∧ l.map (Value.int .u8) = xs.map Extern.Stop.cell
  | [], _ => ⟨[], rfl, rfl⟩
  | x :: l, h => by
    obtain ⟨xs, h1, h2⟩ := pbytes_of l (fun y hy => h y (by simp [hy]))
    have hx := h x (by simp)
    have e : ((UInt8.ofNat x.toNat).toNat : Int) = x := by
      rw [UInt8.toNat_ofNat']
      omega
    refine ⟨UInt8.ofNat x.toNat :: xs, by simp [h1], ?_⟩
    rw [List.map_cons, List.map_cons, h2, Extern.Stop.cell]
    congr 2
    exact e.symm
set_option maxRecDepth 8000 in
theorem eql32 (a b : List Int) (ha : Bn 32 a) (hab : a = b) (w : World) : Sem.run Tryd.prog (binOp .eql 27 (.agg (List.map (Value.int .u8) a).toArray) (.agg (List.map (Value.int .u8) b).toArray)) w = .ok (.bool true) w := by
  subst hab
  obtain ⟨xs, x1, x2⟩ := pbytes_of a ha.byt
  rw [x2, run_eql_bytes (P := Tryd.prog) w 27 5 32 Tryd.underlying27 Tryd.underlying5 (fun _ => by kernel_rfl) xs xs (x1.trans ha.len) (x1.trans ha.len)]
  simp
set_option maxRecDepth 8000 in
theorem neq32 (a b : List Int) (ha : Bn 32 a) (hab : a = b) (w : World) : Sem.run Tryd.prog (binOp .neq 27 (.agg (List.map (Value.int .u8) a).toArray) (.agg (List.map (Value.int .u8) b).toArray)) w = .ok (.bool false) w := by
  subst hab
  obtain ⟨xs, x1, x2⟩ := pbytes_of a ha.byt
  rw [x2, run_neq_struct, run_equalIn_bytes w 9998 27 5 32 Tryd.underlying27 Tryd.underlying5 (fun _ => by kernel_rfl) xs xs (x1.trans ha.len) (x1.trans ha.len)]
  simp [Result.andThen]
end Go.Proofs.YtmibjgkakolhiaaDoor
