/-
  A cipher's State in memory: its key, whether it has one, the nonce of the next box. No statement of the seat is proved here.
-/
import Derived.Test.YtjmdgmbkkkoamaaKGen
import Derived.Test.YtjmdgmbkkkoamaaKPart
namespace Go.Proofs.Ytjmdgmbkkkoamaa
open Go.RowKit

/-- A State's cells. -/
def sc9 (k : List Int) (h : Bool) (n : Int) : List Value := List.map (Value.int .u8) k ++ [.bool h, .int .u64 n]
theorem sc9_len {k : List Int} {h : Bool} {n : Int} (hk : k.length = 32) : (sc9 k h n).length = 34 := by
  unfold sc9
  simp [hk]
theorem sc9_take {k : List Int} {h : Bool} {n : Int} (hk : k.length = 32) : ((sc9 k h n).drop 0).take 32 = List.map (Value.int .u8) k := by
  unfold sc9
  rw [List.drop_zero, List.take_append_of_le_length (by rw [List.length_map]; omega), List.take_of_length_le (by rw [List.length_map]; omega)]
theorem sc9_key {k k' : List Int} {h : Bool} {n : Int} (hk : k.length = 32) (hk' : k'.length = 32) : (sc9 k h n).take 0 ++ (List.map (Value.int .u8) k' ++ (sc9 k h n).drop (0 + (List.map (Value.int .u8) k').length)) = sc9 k' h n := by
  unfold sc9
  rw [List.take_zero, List.nil_append, List.length_map, hk', Nat.zero_add, List.drop_append, List.drop_eq_nil_of_le (by rw [List.length_map]; omega), List.nil_append, List.length_map, hk]
  rfl
theorem sc9_has {k : List Int} {h : Bool} {n : Int} (hk : k.length = 32) (h' : Bool) : (sc9 k h n).set 32 (.bool h') = sc9 k h' n := by
  unfold sc9
  rw [List.set_append_right _ _ (by rw [List.length_map]; omega), List.length_map, hk]
  rfl
theorem sc9_nonce {k : List Int} {h : Bool} {n : Int} (hk : k.length = 32) (n' : Int) : (sc9 k h n).set 33 (.int .u64 n') = sc9 k h n' := by
  unfold sc9
  rw [List.set_append_right _ _ (by rw [List.length_map]; omega), List.length_map, hk]
  rfl
/-- The State in block b has the key k (h: whether it has one), and n is the nonce of the next box. -/
structure Sx (u : World) (b : Nat) (k : List Int) (h : Bool) (n : Int) : Prop where
  ar : Ar u b 34 (sc9 k h n)
  bk : Bn 32 k
  wn : 0 ≤ n ∧ n < 18446744073709551616
section
variable {u u' : World} {b : Nat} {k : List Int} {h : Bool} {n : Int}
theorem Sx.later (s : Sx u b k h n) (hb : Below u.heap.size u u') : Sx u' b k h n := ⟨s.ar.later hb, s.bk, s.wn⟩
theorem Sx.extb {bo : Nat} (s : Sx u b k h n) (hb : ExtB bo u u') (hne : b ≠ bo) : Sx u' b k h n := ⟨s.ar.extb hb hne, s.bk, s.wn⟩
theorem Sx.drew (s : Sx u b k h n) : Sx u.drew b k h n := ⟨s.ar.drew, s.bk, s.wn⟩
theorem Sx.else (s : Sx u b k h n) (c i : Nat) (hc : b ≠ c) (v : Value) : Sx (u.setCell ⟨c, i, none⟩ v) b k h n := ⟨s.ar.else c i hc v, s.bk, s.wn⟩
theorem Sx.else_cells (s : Sx u b k h n) (c o : Nat) (hc : b ≠ c) (vs : List Value) : Sx (u.setCells c o vs) b k h n := ⟨Ar.else_cells hc vs o s.ar, s.bk, s.wn⟩
theorem Sx.lt (s : Sx u b k h n) : b < u.heap.size := s.ar.lt (by decide)
theorem Sx.key (s : Sx u b k h n) : u.rangeAt b 0 (List.map (Value.int .u8) k) := by
  have := range_sub s.ar.rng 0 32
  rwa [sc9_take s.bk.len] at this
theorem Sx.keyThere (s : Sx u b k h n) : u.there b 0 32 := there_part s.ar.all 0 32 (by decide)
theorem Sx.has (s : Sx u b k h n) : u.cell? ⟨b, 32, none⟩ = some (.bool h) ∧ u.frozen? ⟨b, 32, none⟩ = false := by
  obtain ⟨h1, h2⟩ := s.ar.cell 32 (by decide)
  refine ⟨?_, h2⟩
  have e : (sc9 k h n)[32]? = some (.bool h) := by
    unfold sc9
    rw [List.getElem?_append_right (by rw [List.length_map, s.bk.len]; exact Nat.le_refl _), List.length_map, s.bk.len]
    rfl
  rw [h1, ← e, List.getElem?_eq_getElem]
theorem Sx.nonce (s : Sx u b k h n) : u.cell? ⟨b, 33, none⟩ = some (.int .u64 n) ∧ u.frozen? ⟨b, 33, none⟩ = false := by
  obtain ⟨h1, h2⟩ := s.ar.cell 33 (by decide)
  refine ⟨?_, h2⟩
  have e : (sc9 k h n)[33]? = some (.int .u64 n) := by
    unfold sc9
    rw [List.getElem?_append_right (by rw [List.length_map, s.bk.len]; decide), List.length_map, s.bk.len]
    rfl
  rw [h1, ← e, List.getElem?_eq_getElem]
theorem Sx.setN (s : Sx u b k h n) {n' : Int} (hn : 0 ≤ n' ∧ n' < 18446744073709551616) : Sx (u.setCell ⟨b, 33, none⟩ (.int .u64 n')) b k h n' :=
  ⟨by rw [← sc9_nonce s.bk.len n']; exact s.ar.set 33 (by decide) _, s.bk, hn⟩
theorem Sx.setHas (s : Sx u b k h n) (h' : Bool) : Sx (u.setCell ⟨b, 32, none⟩ (.bool h')) b k h' n :=
  ⟨by rw [← sc9_has s.bk.len h']; exact s.ar.set 32 (by decide) _, s.bk, s.wn⟩
theorem Sx.setKey (s : Sx u b k h n) {k' : List Int} (hk : Bn 32 k') : Sx (u.setCells b 0 (List.map (Value.int .u8) k')) b k' h n :=
  ⟨by rw [← sc9_key s.bk.len hk.len (k := k)]; exact s.ar.part 0 _ (by rw [hk.map_len]; decide), hk, s.wn⟩
theorem Sx.setAll (s : Sx u b k h n) {k' : List Int} (hk : Bn 32 k') (h' : Bool) {n' : Int} (hn : 0 ≤ n' ∧ n' < 18446744073709551616) : Sx (u.setCells b 0 (sc9 k' h' n')) b k' h' n' :=
  ⟨Ar.all_set s.ar.all (sc9_len hk.len), hk, hn⟩
end
theorem sx_new (u : World) (k : List Int) (h : Bool) (n : Int) (hk : Bn 32 k) (hn : 0 ≤ n ∧ n < 18446744073709551616) (t : TypeId) : Sx (u.alloc (.cells (sc9 k h n).toArray t)) u.heap.size k h n := ⟨ar_box u _ 34 (sc9_len hk.len) t, hk, hn⟩
def z9l : List Int := List.replicate 32 0
theorem z9l_bn : Bn 32 z9l := ⟨List.length_replicate, fun x hx => by rw [(List.mem_replicate.1 hx).2]; decide⟩
theorem sc9_oneCell (k : List Int) (h : Bool) (n : Int) : ∀ v ∈ sc9 k h n, v.oneCell' = true := fun v hv => by
  unfold sc9 at hv
  rcases List.mem_append.1 hv with hv | hv
  · exact bytes_oneCell k v hv
  · simp at hv
    rcases hv with rfl | rfl <;> rfl
/-- A store where no byte stands turns no bytes. -/
theorem Rd.not_here {u : World} {a : Option Addr} {len cap : Nat} {l : List Int} (h : Rd u a len cap l) {b o : Nat} {x : Value} (hc : u.cell? ⟨b, o, none⟩ = some x) (hx : ∀ n, x ≠ .int .u8 n) (v : Value) : Rd (u.setCell ⟨b, o, none⟩ v) a len cap l :=
  ⟨h.hlen, h.hle, h.hnil, h.byt, fun h0 => by
    obtain ⟨bx, ox, rfl, hcell⟩ := h.cell h0
    refine ⟨bx, ox, rfl, fun i hi => ?_⟩
    have hy := hcell i hi
    rw [World.cell?_setCell_other _ _ _ _ (fun e => by
      rw [← e, hc] at hy
      exact hx _ (Option.some.inj hy))]
    exact hy⟩
theorem sc9_cells {k : List Int} (h : Bool) (n : Int) (hk : Bn 32 k) : (sc9 k h n).length = 34 ∧ (∀ v ∈ sc9 k h n, v.oneCell' = true) ∧ (Try.prog.info? 48).map (·.size) = some (sc9 k h n).length :=
  ⟨sc9_len hk.len, sc9_oneCell k h n, by rw [sc9_len hk.len]; kernel_rfl⟩
end Go.Proofs.Ytjmdgmbkkkoamaa
