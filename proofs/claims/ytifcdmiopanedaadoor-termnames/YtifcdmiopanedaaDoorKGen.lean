/-
  Plain laws on slices, arrays and worlds that several chapters use. No statement of the seat is proved here.
-/
import Derived.Test.YtifcdmiopanedaaDoorOWord
namespace Go.Proofs.YtifcdmiopanedaaDoor
open Go.RowKit

theorem leN_w : ∀ (l : List Int), Byt l → 0 ≤ leN l ∧ leN l < 256 ^ l.length
  | [], _ => ⟨by decide, by decide⟩
  | x :: l, h => by
    obtain ⟨h0, h1⟩ := leN_w l (fun y hy => h y (List.mem_cons_of_mem _ hy))
    have hx := h x (by simp)
    rw [leN, List.length_cons, Int.pow_succ]
    omega
theorem Rd.from {w : World} {b off : Nat} {len cap : Nat} {l : List Int} (h : Rd w (some ⟨b, off, none⟩) len cap l) (k : Nat) (hk : k ≤ len) (m c : Nat) (hm : m = len - k) (hc : m ≤ c) : Rd w (some ⟨b, off + k, none⟩) m c (l.drop k) :=
  ⟨by rw [List.length_drop, h.hlen, hm], hc, (fun e => by cases e), h.byt.drop k, fun h0 => by
    obtain ⟨b', off', ha, hcell⟩ := h.cell (by omega)
    cases ha
    refine ⟨b, off + k, rfl, fun i hi => ?_⟩
    rw [Nat.add_assoc, hcell (k + i) (by omega), List.getElem?_drop]⟩
theorem there_extb {bo : Nat} {u u' : World} (hb : ExtB bo u u') {b o n : Nat} (hne : b ≠ bo) (h : u.there b o n) : u'.there b o n := fun j hj => by
  obtain ⟨h1, h2⟩ := h j hj
  obtain ⟨v, hv⟩ := Option.isSome_iff_exists.1 h1
  have e := hb.block b (World.block_lt_of_cell? u _ hv) hne
  refine ⟨by rw [hb.cell hne hv]; rfl, ?_⟩
  rw [← h2]
  exact World.frozen?_of_block e
theorem Rd.extb {w w' : World} {b off len cap bo : Nat} {l : List Int} (h : Rd w (some ⟨b, off, none⟩) len cap l) (hb : ExtB bo w w') (hne : b ≠ bo) : Rd w' (some ⟨b, off, none⟩) len cap l :=
  ⟨h.hlen, h.hle, h.hnil, h.byt, fun h0 => by
    obtain ⟨b', off', ha, hc⟩ := h.cell h0
    cases ha
    exact ⟨b, off, rfl, fun i hi => hb.cell hne (hc i hi)⟩⟩
/-- An array of n bytes. -/
structure Bn (n : Nat) (l : List Int) : Prop where
  len : l.length = n
  byt : Byt l
theorem Bn.map_len {n : Nat} {l : List Int} (h : Bn n l) : (List.map (Value.int .u8) l).length = n := by rw [List.length_map, h.len]
theorem ExtB.comp {b : Nat} {a u v : World} (h : ExtB b a u) (k : ExtB b u v) : ExtB b a v :=
  ⟨k.os.trans h.os, k.tape.trans h.tape, k.output.trans h.output, Nat.le_trans h.size k.size, fun i hi hb => (k.block i (Nat.lt_of_lt_of_le hi h.size) hb).trans (h.block i hi hb)⟩
theorem Ar.extb {u u' : World} {b bo n : Nat} {cs : List Value} (h : Ar u b n cs) (hb : ExtB bo u u') (hne : b ≠ bo) : Ar u' b n cs :=
  ⟨fun j v hv => hb.cell hne (h.rng j v hv), there_extb hb hne h.all, h.len⟩
/-- A new variable with its cells. -/
theorem ar_var (u : World) (z : Array Value) (n : Nat) (hz : z.size = n) (t : TypeId) (cs : List Value) (hl : cs.length = n) : Ar ((u.alloc (.cells z t)).setCells u.heap.size 0 cs) u.heap.size n cs := Ar.all_set (there_new u n z hz t) hl
theorem bel_var (u : World) (z : Array Value) (t : TypeId) (cs : List Value) : Below u.heap.size u ((u.alloc (.cells z t)).setCells u.heap.size 0 cs) := below_setCells _ (Nat.le_refl _) _ _ _ (bel1 _ _)
theorem bn32_cells {l : List Int} (h : Bn 32 l) : (List.map (Value.int .u8) l).length = 32 ∧ (∀ v ∈ (List.map (Value.int .u8) l), v.oneCell' = true) ∧ (Tryd.prog.info? 91).map (·.size) = some (List.map (Value.int .u8) l).length :=
  ⟨h.map_len, bytes_oneCell _, by rw [h.map_len]; kernel_rfl⟩
theorem there_part {u : World} {b n : Nat} (h : u.there b 0 n) (o k : Nat) (hk : o + k ≤ n) : u.there b o k := fun j hj => by
  have := h (o + j) (by omega)
  rwa [Nat.zero_add] at this
/-- Four bytes more. -/
theorem range_more {u : World} {b k : Nat} {cs vs : List Value} (h : u.rangeAt b 0 cs) (hk : cs.length = k) (n : Nat) (ht : u.there b 0 n) (hn : k + vs.length ≤ n) : (u.setCells b k vs).rangeAt b 0 (cs ++ vs) := by
  refine range_app (World.rangeAt_setCells_apart h _ _ _ (.inr (.inl (by omega)))) ?_
  rw [hk, Nat.zero_add]
  exact World.rangeAt_setCells_same _ _ _ _ (there_part ht k _ hn)
/-- An append at a step of a region that draws its order, where what it makes is known. -/
theorem step_append_run {P : Program} {ops : Array Oper} {o : Oper} {a : Act} {w : World} {K : Act → World → Prop} {Q : Exit → Act → World → Prop} {E : Prop} (hgd : o.guard = none) (s x : Operand) (t : TypeId)
    (ho : o.op = .call { callee := .builtin .append, args := #[s, x], argTypes := #[t, t] }) (v1 v2 : Value) (hs : a.eval s = v1) (hx : a.eval x = v2) (v : Value) (w' : World)
    (hr : (Builtin.append_ #[t, t] o.type #[v1, v2]).run P w = .ok v w') (h : K (a.put o.dst v) w') : if Region.wanted o (yielded ops a.tmps) = true then Oper.wp P o a w K Q else E := by
  have hw : Region.wanted o (yielded ops a.tmps) = true := by simp [Region.wanted, hgd]
  rw [if_pos hw]
  unfold Oper.wp execOp
  simp only [ho, resolve, invoke, builtin, Sem.run_bind, Sem.run_pure, Result.andThen_ok, List.map_toArray, List.map_cons, List.map_nil, hs, hx, hr]
  exact h
def slen : Value → Nat
  | .slice _ n _ => n
  | _ => 0
theorem owns_later {u v : World} {base g n c : Nat} {e : TypeId} {xs : List Value} (h : u.ownsRow base e 1 (.slice (some ⟨g, 0, none⟩) n c) n xs) (hb : Below u.heap.size u v) : v.ownsRow base e 1 (.slice (some ⟨g, 0, none⟩) n c) n xs :=
  h.kept (w' := v) (row := none) ⟨hb.os, hb.tape, hb.output, hb.size, fun k hk _ => hb.block k hk⟩ (.inr (by simp [Value.ownBlock]))
theorem extb_grown {u v : World} {g : Nat} (h : u.grownBy v (some g)) : ExtB g u v := ⟨h.os, h.tape, h.output, h.size, fun k hk hne => h.block k hk (fun e => hne (Option.some.inj e))⟩
end Go.Proofs.YtifcdmiopanedaaDoor
