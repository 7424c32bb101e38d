/-
  Several texts of one's own, laid together. No statement of the seat is proved here.
-/
import Derived.Test.YtmibjgkakolhiaaGreatDoorPk6
import Derived.Test.YtmibjgkakolhiaaGreatDoorRB2
import Derived.Test.YtmibjgkakolhiaaGreatDoorPk3
import Derived.Test.YtmibjgkakolhiaaGreatDoorPk8
/-
 What the conditions on blake's and the reference's package variables give a walk, and a world that meets them. No statement of the seat is proved here.
-/
namespace Go.Proofs.YtmibjgkakolhiaaGreatDoor
open Go.ChangeShapes Go.WideShapes Go.ChangeAt Go.RowKit

set_option maxRecDepth 8000 in
theorem gRiv : Tryz.prog.globalNamed "porthole/portholeref4.iv" = some 0 := by kernel_rfl
set_option maxRecDepth 8000 in
theorem gRivType : (Tryz.prog.globals[0]?).map (·.type) = some 64 := by kernel_rfl
set_option maxRecDepth 8000 in
theorem gRro : Tryz.prog.globalNamed "porthole/portholeref4.rows" = some 1 := by kernel_rfl
set_option maxRecDepth 8000 in
theorem gRroType : (Tryz.prog.globals[1]?).map (·.type) = some 71 := by kernel_rfl
set_option maxRecDepth 8000 in
theorem gRsg : Tryz.prog.globalNamed "porthole/portholeref4.sigma" = some 2 := by kernel_rfl
set_option maxRecDepth 8000 in
theorem gRsgType : (Tryz.prog.globals[2]?).map (·.type) = some 73 := by kernel_rfl
set_option maxRecDepth 8000 in
theorem cellsI7 : Tryz.prog.cellsOf 3 = 1 := by kernel_rfl
set_option maxRecDepth 8000 in
theorem cellsR7 : Tryz.prog.cellsOf 70 = 4 := by kernel_rfl
set_option maxRecDepth 8000 in
theorem cellsS7 : Tryz.prog.cellsOf 72 = 16 := by kernel_rfl
def rowII : List (List Int) := [[0, 4, 8, 12], [1, 5, 9, 13], [2, 6, 10, 14], [3, 7, 11, 15], [0, 5, 10, 15], [1, 6, 11, 12], [2, 7, 8, 13], [3, 4, 9, 14]]
set_option maxRecDepth 8000 in
theorem rowII_flat : rowII.flatten.map (Value.int .i64) = rowI.map (Value.int .i64) := by kernel_rfl
set_option maxRecDepth 8000 in
theorem sgI_flat : sgI.flatten.map (Value.int .i64) = sigI.map (Value.int .i64) := by kernel_rfl
set_option maxRecDepth 100000 in
theorem gq_of_vars {W : World} {ps : List MemPlace} (h : DataW.LaidVars Tryz.prog W [("porthole/portholeref4.rows", Rows.laid_porthole_portholeref4_rows), ("porthole/portholeref4.iv", Rows.laid_porthole_portholeref4_iv), ("porthole/portholeref4.sigma", Rows.laid_porthole_portholeref4_sigma)] ps) : Gq W := by
 obtain ⟨g, t, cs, fuel, p, q, hg, ht, hvar, hd, ⟨g2, t2, cs2, fuel2, p2, q2, hg2, ht2, hvar2, hd2, ⟨g3, t3, cs3, fuel3, p3, q3, hg3, ht3, hvar3, hd3, _, _⟩, _⟩, _⟩ := h
 obtain rfl := Option.some.inj (gRro.symm.trans hg)
 obtain rfl := Option.some.inj (gRroType.symm.trans ht)
 obtain rfl := Option.some.inj (gRiv.symm.trans hg2)
 obtain rfl := Option.some.inj (gRivType.symm.trans ht2)
 obtain rfl := Option.some.inj (gRsg.symm.trans hg3)
 obtain rfl := Option.some.inj (gRsgType.symm.trans ht3)
 refine ⟨vector_of (k := .u32) iv7 rfl gRiv hvar2 Tryz.underlying64 Tryz.underlying63 cells4' hd2, ?_, ?_⟩
 ·rw [← rowII_flat]
  exact matrix_of (k := .i64) rowII rfl (by decide) (by decide) gRro hvar Tryz.underlying71 Tryz.underlying70 Tryz.underlying3 cellsI7 cellsR7 hd
 ·rw [← sgI_flat]
  exact matrix_of (k := .i64) sgI rfl (by decide) (by decide) gRsg hvar3 Tryz.underlying73 Tryz.underlying72 Tryz.underlying3 cellsI7 cellsS7 hd3
set_option maxRecDepth 8000 in
theorem gg_of_laid {W : World} (h : laidMetH Tryz.prog [("porthole/blake.iv", Rows.laid_porthole_blake_iv), ("porthole/blake.sigma", Rows.laid_porthole_blake_sigma), ("porthole/portholeref4.rows", Rows.laid_porthole_portholeref4_rows), ("porthole/portholeref4.iv", Rows.laid_porthole_portholeref4_iv), ("porthole/portholeref4.sigma", Rows.laid_porthole_portholeref4_sigma)] W) : Gb W ∧ Gq W := by
 have h' : laidMet Tryz.prog [("porthole/blake.iv", Rows.laid_porthole_blake_iv), ("porthole/blake.sigma", Rows.laid_porthole_blake_sigma), ("porthole/portholeref4.rows", Rows.laid_porthole_portholeref4_rows), ("porthole/portholeref4.iv", Rows.laid_porthole_portholeref4_iv), ("porthole/portholeref4.sigma", Rows.laid_porthole_portholeref4_sigma)] W := h
 obtain ⟨ps, hv, _⟩ := h'
 obtain ⟨h1, ps', h2⟩ := gb_of_vars hv
 exact ⟨h1, gq_of_vars h2⟩
def laidRo : Obj → Obj
 | .cells _ t frozen => .cells (rowI.map (Value.int .i64)).toArray t frozen
 | o => o
def laidSi : Obj → Obj
 | .cells _ t frozen => .cells (sigI.map (Value.int .i64)).toArray t frozen
 | o => o
set_option maxRecDepth 100000 in
theorem laidWorldR_met (os : Os) (args : Array Value) : laidMetH Tryz.prog [("porthole/blake.iv", Rows.laid_porthole_blake_iv), ("porthole/blake.sigma", Rows.laid_porthole_blake_sigma), ("porthole/portholeref4.rows", Rows.laid_porthole_portholeref4_rows), ("porthole/portholeref4.iv", Rows.laid_porthole_portholeref4_iv), ("porthole/portholeref4.sigma", Rows.laid_porthole_portholeref4_sigma)] (({ World.holding Tryz.prog os ⟨#[], #[], []⟩ with heap := ((((((World.holding Tryz.prog os ⟨#[], #[], []⟩).heap.modify 3 laidIv).modify 4 laidSg).modify 1 laidRo).modify 0 laidIv).modify 2 laidSi) } : World).forCall (fun _ _ => 0) ⟨#[], args, []⟩).memory :=
 laidMetH_of_parts (laidMet_of_run' 8 (by kernel_rfl) (by kernel_rfl)) (by kernel_rfl)
end Go.Proofs.YtmibjgkakolhiaaGreatDoor
/-
 A cipher's State in memory: its key, whether it has one, the nonce of the next box. No statement of the seat is proved here.
-/
namespace Go.Proofs.YtmibjgkakolhiaaGreatDoor
open Go.RowKit

/-- A State's cells. -/
def sc9 (k : List Int) (h : Bool) (n : Int) : List Value := List.map (Value.int .u8) k ++ [.bool h, .int .u64 n]
set_option maxRecDepth 8000 in
theorem sc9_len {k : List Int} {h : Bool} {n : Int} (hk : k.length = 32) : (sc9 k h n).length = 34 := by
 unfold sc9
 simp [hk]
set_option maxRecDepth 8000 in
theorem sc9_take {k : List Int} {h : Bool} {n : Int} (hk : k.length = 32) : ((sc9 k h n).drop 0).take 32 = List.map (Value.int .u8) k := by
 unfold sc9
 rw [List.drop_zero, List.take_append_of_le_length (by rw [List.length_map]; omega), List.take_of_length_le (by rw [List.length_map]; omega)]
set_option maxRecDepth 8000 in
theorem sc9_key {k k' : List Int} {h : Bool} {n : Int} (hk : k.length = 32) (hk' : k'.length = 32) : (sc9 k h n).take 0 ++ (List.map (Value.int .u8) k' ++ (sc9 k h n).drop (0 + (List.map (Value.int .u8) k').length)) = sc9 k' h n := by
 unfold sc9
 rw [List.take_zero, List.nil_append, List.length_map, hk', Nat.zero_add, List.drop_append, List.drop_eq_nil_of_le (by rw [List.length_map]; omega), List.nil_append, List.length_map, hk]
 rfl
set_option maxRecDepth 8000 in
theorem sc9_has {k : List Int} {h : Bool} {n : Int} (hk : k.length = 32) (h' : Bool) : (sc9 k h n).set 32 (.bool h') = sc9 k h' n := by
 unfold sc9
 rw [List.set_append_right _ _ (by rw [List.length_map]; omega), List.length_map, hk]
 rfl
set_option maxRecDepth 8000 in
theorem sc9_nonce {k : List Int} {h : Bool} {n : Int} (hk : k.length = 32) (n' : Int) : (sc9 k h n).set 33 (.int .u64 n') = sc9 k h n' := by
 unfold sc9
 rw [List.set_append_right _ _ (by rw [List.length_map]; omega), List.length_map, hk]
 rfl
/-- The State in block b has the key k (h: whether it has one), and n is the nonce of the next box. -/
structure Sx (u : World) (b : Nat) (k : List Int) (h : Bool) (n : Int) : Prop where
 ar : Ar u b 34 (sc9 k h n)
 bk : Bn 32 k
 wn : 0 ≤ n ∧ n < 18446744073709551616
section
variable {u u' : World} {b : Nat} {k : List Int} {h : Bool} {n : Int}
set_option maxRecDepth 8000 in
theorem Sx.later (s : Sx u b k h n) (hb : Below u.heap.size u u') : Sx u' b k h n := ⟨s.ar.later hb, s.bk, s.wn⟩
set_option maxRecDepth 8000 in
theorem Sx.extb {bo : Nat} (s : Sx u b k h n) (hb : ExtB bo u u') (hne : b ≠ bo) : Sx u' b k h n := ⟨s.ar.extb hb hne, s.bk, s.wn⟩
set_option maxRecDepth 8000 in
theorem Sx.drew (s : Sx u b k h n) : Sx u.drew b k h n := ⟨s.ar.drew, s.bk, s.wn⟩
set_option maxRecDepth 8000 in
theorem Sx.else (s : Sx u b k h n) (c i : Nat) (hc : b ≠ c) (v : Value) : Sx (u.setCell ⟨c, i, none⟩ v) b k h n := ⟨s.ar.else c i hc v, s.bk, s.wn⟩
set_option maxRecDepth 8000 in
theorem Sx.else_cells (s : Sx u b k h n) (c o : Nat) (hc : b ≠ c) (vs : List Value) : Sx (u.setCells c o vs) b k h n := ⟨Ar.else_cells hc vs o s.ar, s.bk, s.wn⟩
set_option maxRecDepth 8000 in
theorem Sx.lt (s : Sx u b k h n) : b < u.heap.size := s.ar.lt (by decide)
set_option maxRecDepth 8000 in
theorem Sx.key (s : Sx u b k h n) : u.rangeAt b 0 (List.map (Value.int .u8) k) := by
 have := range_sub s.ar.rng 0 32
 rwa [sc9_take s.bk.len] at this
set_option maxRecDepth 8000 in
theorem Sx.keyThere (s : Sx u b k h n) : u.there b 0 32 := there_part s.ar.all 0 32 (by decide)
set_option maxRecDepth 8000 in
theorem Sx.has (s : Sx u b k h n) : u.cell? ⟨b, 32, none⟩ = some (.bool h) ∧ u.frozen? ⟨b, 32, none⟩ = false := by
 obtain ⟨h1, h2⟩ := s.ar.cell 32 (by decide)
 refine ⟨?_, h2⟩
 have e : (sc9 k h n)[32]? = some (.bool h) := by
  unfold sc9
  rw [List.getElem?_append_right (by rw [List.length_map, s.bk.len]; exact Nat.le_refl _), List.length_map, s.bk.len]
  rfl
 rw [h1, ← e, List.getElem?_eq_getElem]
set_option maxRecDepth 8000 in
theorem Sx.nonce (s : Sx u b k h n) : u.cell? ⟨b, 33, none⟩ = some (.int .u64 n) ∧ u.frozen? ⟨b, 33, none⟩ = false := by
 obtain ⟨h1, h2⟩ := s.ar.cell 33 (by decide)
 refine ⟨?_, h2⟩
 have e : (sc9 k h n)[33]? = some (.int .u64 n) := by
  unfold sc9
  rw [List.getElem?_append_right (by rw [List.length_map, s.bk.len]; decide), List.length_map, s.bk.len]
  rfl
 rw [h1, ← e, List.getElem?_eq_getElem]
set_option maxRecDepth 8000 in
theorem Sx.setN (s : Sx u b k h n) {n' : Int} (hn : 0 ≤ n' ∧ n' < 18446744073709551616) : Sx (u.setCell ⟨b, 33, none⟩ (.int .u64 n')) b k h n' :=
 ⟨by rw [← sc9_nonce s.bk.len n']; exact s.ar.set 33 (by decide) _, s.bk, hn⟩
set_option maxRecDepth 8000 in
theorem Sx.setHas (s : Sx u b k h n) (h' : Bool) : Sx (u.setCell ⟨b, 32, none⟩ (.bool h')) b k h' n :=
 ⟨by rw [← sc9_has s.bk.len h']; exact s.ar.set 32 (by decide) _, s.bk, s.wn⟩
set_option maxRecDepth 8000 in
theorem Sx.setKey (s : Sx u b k h n) {k' : List Int} (hk : Bn 32 k') : Sx (u.setCells b 0 (List.map (Value.int .u8) k')) b k' h n :=
 ⟨by rw [← sc9_key s.bk.len hk.len (k := k)]; exact s.ar.part 0 _ (by rw [hk.map_len]; decide), hk, s.wn⟩
set_option maxRecDepth 8000 in
theorem Sx.setAll (s : Sx u b k h n) {k' : List Int} (hk : Bn 32 k') (h' : Bool) {n' : Int} (hn : 0 ≤ n' ∧ n' < 18446744073709551616) : Sx (u.setCells b 0 (sc9 k' h' n')) b k' h' n' :=
 ⟨Ar.all_set s.ar.all (sc9_len hk.len), hk, hn⟩
end
set_option maxRecDepth 8000 in
theorem sx_new (u : World) (k : List Int) (h : Bool) (n : Int) (hk : Bn 32 k) (hn : 0 ≤ n ∧ n < 18446744073709551616) (t : TypeId) : Sx (u.alloc (.cells (sc9 k h n).toArray t)) u.heap.size k h n := ⟨ar_box u _ 34 (sc9_len hk.len) t, hk, hn⟩
def z9l : List Int := List.replicate 32 0
set_option maxRecDepth 8000 in
theorem z9l_bn : Bn 32 z9l := ⟨List.length_replicate, fun x hx => by rw [(List.mem_replicate.1 hx).2]; decide⟩
set_option maxRecDepth 8000 in
theorem sc9_oneCell (k : List Int) (h : Bool) (n : Int) : ∀ v ∈ sc9 k h n, v.oneCell' = true := fun v hv => by
 unfold sc9 at hv
 rcases List.mem_append.1 hv with hv | hv
 ·exact bytes_oneCell k v hv
 ·simp at hv
  rcases hv with rfl | rfl <;> rfl
set_option maxRecDepth 8000 in
/-- A store where no byte stands turns no bytes. -/
theorem Rd.not_here {u : World} {a : Option Addr} {len cap : Nat} {l : List Int} (h : Rd u a len cap l) {b o : Nat} {x : Value} (hc : u.cell? ⟨b, o, none⟩ = some x) (hx : ∀ n, x ≠ .int .u8 n) (v : Value) : Rd (u.setCell ⟨b, o, none⟩ v) a len cap l :=
 ⟨h.hlen, h.hle, h.hnil, h.byt, fun h0 => by
  obtain ⟨bx, ox, rfl, hcell⟩ := h.cell h0
  refine ⟨bx, ox, rfl, fun i hi => ?_⟩
  have hy := hcell i hi
  rw [World.cell?_setCell_other _ _ _ _ (fun e => by
   rw [← e, hc] at hy
   exact hx _ (Option.some.inj hy))]
  exact hy⟩
/-- All bytes that could be read can be read as before. -/
def Kp (w w' : World) : Prop := ∀ (a : Option Addr) (len cap : Nat) (l : List Int), Rd w a len cap l → Rd w' a len cap l
set_option maxRecDepth 8000 in
theorem Kp.refl (w : World) : Kp w w := fun _ _ _ _ h => h
set_option maxRecDepth 8000 in
theorem Kp.below {w w' : World} (h : Below w.heap.size w w') : Kp w w' := fun _ _ _ _ hr => hr.below h
set_option maxRecDepth 8000 in
theorem sc9_cells {k : List Int} (h : Bool) (n : Int) (hk : Bn 32 k) : (sc9 k h n).length = 34 ∧ (∀ v ∈ sc9 k h n, v.oneCell' = true) ∧ (Tryz.prog.info? 53).map (·.size) = some (sc9 k h n).length :=
 ⟨sc9_len hk.len, sc9_oneCell k h n, by rw [sc9_len hk.len]; kernel_rfl⟩
end Go.Proofs.YtmibjgkakolhiaaGreatDoor
