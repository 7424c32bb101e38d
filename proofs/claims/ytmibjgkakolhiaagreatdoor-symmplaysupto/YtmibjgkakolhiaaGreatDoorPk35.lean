/-
  Several texts of one's own, laid together. No statement of the seat is proved here.
-/
import Derived.Test.YtmibjgkakolhiaaGreatDoorPk1
import Derived.Test.YtmibjgkakolhiaaGreatDoorPk34
import Derived.Test.YtmibjgkakolhiaaGreatDoorRB2
import Derived.Test.YtmibjgkakolhiaaGreatDoorPk15
import Derived.Test.YtmibjgkakolhiaaGreatDoorPk13
import Derived.Test.YtmibjgkakolhiaaGreatDoorPk10
import Derived.Maps.AppendAt
import Derived.Laws.OwnMore
/-
 What the reference's NewSymm does. No statement of the seat is proved here.
-/
namespace Go.Proofs.YtmibjgkakolhiaaGreatDoor
open Go.RowKit

/-- So many bytes of a name, noughts behind them. -/
def nb10 (l : List Int) (k : Nat) : List Int := l.take k ++ List.replicate (32 - k) 0
set_option maxRecDepth 8000 in
theorem nb10_zero (l : List Int) : nb10 l 0 = z9l := rfl
set_option maxRecDepth 8000 in
theorem nb10_succ (l : List Int) (k : Nat) (hk : k < l.length) (h32 : k < 32) : (nb10 l k).set k l[k]! = nb10 l (k + 1) := by
 unfold nb10
 have e : (l.take k).length = k := by rw [List.length_take]; omega
 rw [List.set_append_right _ _ (by omega), e, Nat.sub_self, List.take_succ_eq_append_getElem hk, List.append_assoc, getElem!_pos l k hk]
 congr 1
 rw [show 32 - k = (32 - (k + 1)) + 1 by omega, List.replicate_succ, List.set_cons_zero]
 rfl
set_option maxRecDepth 8000 in
theorem nb10_all {l : List Int} (h : l.length ≤ 32) : nb10 l l.length = nm10 l := by
 unfold nb10 nm10
 rw [if_pos h, List.take_length]
set_option maxRecDepth 8000 in
theorem build_rsymm (w : World) : Sem.run Tryz.prog (Instr.build 38 #[]) w = .ok (.agg (rc10 z9l false 0 z9l z9l).toArray) w := by kernel_rfl
set_option maxRecDepth 8000 in
theorem wpList_build_nil {ops : Array Oper} {rest : List Oper} {o : Oper} {a : Act} {w : World} {Q : Exit → Act → World → Prop} (hgd : o.guard = none) {t : TypeId} (ho : o.op = Op.build t #[]) (v : Value)
  (hr : Sem.run Tryz.prog (Instr.build t #[]) w = .ok v w) (h : wpList Tryz.prog ops Q rest (a.put o.dst v) w) : wpList Tryz.prog ops Q (o :: rest) a w := by
 refine wpList_plain hgd fun K hK => ?_
 have e : (execOp a.eval o).run Tryz.prog w = .ok (.value v) w := by
  unfold execOp
  rw [ho]
  show Sem.run Tryz.prog (do let r ← Instr.build t (Array.map (fun x : Nat × Operand => match x with | (i, x) => (i, a.eval x)) #[]); pure (Next.value r)) w = _
  rw [Array.map_empty, Sem.run_bind, hr]
  rfl
 unfold Oper.wp
 rw [e]
 exact hK _ _ h
set_option maxRecDepth 8000 in
set_option maxHeartbeats 8000000 in
theorem rnew10_c (s : ByteArray) (w : World) (hg : Gq w) (hs : s.size ≤ 140737488355328) :
  Calls Tryz.prog 5 #[.string s] w fun e w' => ∃ b N, e = .returned (.pointer (some ⟨b, 0, none⟩)) ∧ w.heap.size ≤ b ∧ Hid (N = nm10 (sd s)) ∧ Hid (Ny w' b z9l false 0 N N) ∧ Below w.heap.size w w' := by
 have HG : Hid (Gq w) := hg
 have HL : Hid ((sd s).length = s.size) := sd_len s
 clear hg
 go_enter Tryz.func5, Tryz.ntmps5
 obtain ⟨ds, hds⟩ : ∃ ds, ds = (rc10 z9l false 0 z9l z9l) := ⟨_, rfl⟩
 have HDS : Hid (ds = (rc10 z9l false 0 z9l z9l)) := hds
 have hb9 := build_rsymm w
 rw [← hds] at hb9
 clear hds
 go_upto_region 2 with (refine wpList_build_nil rfl rfl (.agg ds.toArray) hb9 ?_)
 clear hb9
 have HS : Hid (Ny (w.alloc (.cells ds.toArray 38)) w.heap.size z9l false 0 z9l z9l) := by rw [HDS.out]; exact ny_new w 38
 have HB : Hid (Below w.heap.size w (w.alloc (.cells ds.toArray 38))) := bel1 _ _
 obtain ⟨W0, hW0⟩ : ∃ W, W = (w.alloc (.cells ds.toArray 38)) := ⟨_, rfl⟩
 obtain ⟨bs, hbs⟩ : ∃ q, q = w.heap.size := ⟨_, rfl⟩
 have HQ : Hid (w.heap.size ≤ bs) := by unfold Hid; rw [hbs]; exact Nat.le_refl _
 rw [← hW0] at HS HB ⊢
 rw [← hbs] at HS ⊢
 clear hW0 hbs
 go_upto_if 9 with fail
 go_cut [4] from 7 (fun _ wx => ∃ N, Hid (N = nm10 (sd s)) ∧ Hid (Ny wx bs z9l false 0 N z9l) ∧ Hid (Below w.heap.size w wx))
 case first =>
  by_cases hle : s.size ≤ 32
  ·have q1 : (s.size : Int) ≤ 32 := by omega
   have q0 : decide ((s.size : Int) ≤ 32) = true := decide_eq_true q1
   go_wp2
   try simp only [q0]
   go_loopw [4] (fun iv wr => ∃ (k : Nat), iv = .int .i64 k ∧ k ≤ s.size ∧ Hid (Ny wr bs z9l false 0 (nb10 (sd s) k) z9l) ∧ Hid (Below w.heap.size w wr)) (fun iv _ => s.size - (intOf iv).toNat)
   case atStart => exact ⟨0, rfl, Nat.zero_le _, HS, HB⟩
   case round =>
    clear HS HB
    obtain ⟨k, rfl, hk, HS, HB⟩ := hrel
    by_cases hlt : k < s.size
    ·have q2 : (k : Int) < s.size := by omega
     have q3 : (k : Int) < 32 := by omega
     obtain ⟨x, hx⟩ : ∃ x, x = (sd s)[k]! := ⟨_, rfl⟩
     have hx01 : 0 ≤ x ∧ x ≤ 255 := by
      have hkl : k < (sd s).length := by rw [HL.out]; exact hlt
      rw [hx, getElem!_pos (sd s) k hkl]
      exact sd_byt s _ (List.getElem_mem hkl)
     have hix : ∀ u, Sem.run Tryz.prog (Instr.index 9 (.string s) (.int .i64 (k : Int))) u = .ok (.int .u8 x) u := fun u => by rw [hx]; exact idx_str s k hlt u
     have HX : Hid (x = (sd s)[k]!) := hx
     clear hx
     go_upto_region 6 with fail
     refine wp_region_noPanic ?_
     refine wp_region_held_drew (S := ExtB bs wr) (by kernel_rfl) (ExtB.refl bs wr).drew (fun hH => ?_)
     change wpAnyH _ _ _ _ _ _ #[false, false, false, false, false, false, false, false, false] _ _
     refine tk 0 ?_
     try simp only [Act.put, List.setIfInBounds_toArray, List.set_cons_zero, List.set_cons_succ]
     refine tk 1 ?_
     try simp only [Act.put, List.setIfInBounds_toArray, List.set_cons_zero, List.set_cons_succ]
     refine tk 2 ?_
     try simp only [Act.put, List.setIfInBounds_toArray, List.set_cons_zero, List.set_cons_succ]
     refine tk 3 ?_
     try simp only [Act.put, List.setIfInBounds_toArray, List.set_cons_zero, List.set_cons_succ]
     refine tk 4 ?_
     try simp only [Act.put, List.setIfInBounds_toArray, List.set_cons_zero, List.set_cons_succ]
     refine tk 5 ?_
     try simp only [Act.put, List.setIfInBounds_toArray, List.set_cons_zero, List.set_cons_succ]
     refine tk 6 ?_
     try simp only [Act.put, List.setIfInBounds_toArray, List.set_cons_zero, List.set_cons_succ]
     refine tk 7 ?_
     try simp only [Act.put, List.setIfInBounds_toArray, List.set_cons_zero, List.set_cons_succ]
     clear hix
     obtain ⟨cy, fy⟩ := HS.out.ho.cell k (by omega)
     refine rdy 8 (fun K hK => ?_)
     go_simp
     refine hK.out _ _ (ExtB.drew ((ExtB.refl bs wr).set (34 + k) _)) (fun hH' => ?_)
     clear hK K hH; have hH := hH'; clear hH'; try simp only [List.setIfInBounds_toArray, List.set]
     refine wpAnyH_done (by kernel_rfl) ?_ _
     refine NoPanic.normal ?_
     replace HS : Hid (Ny (wr.setCell ⟨bs, 34 + k, none⟩ (.int .u8 x)).drew bs z9l false 0 (nb10 (sd s) (k + 1)) z9l) := by
      unfold Hid
      rw [← nb10_succ (sd s) k (by rw [HL.out]; exact hlt) (by omega), ← HX.out]
      exact (HS.out.setOne k (by omega) hx01).drew
     replace HB : Hid (Below w.heap.size w (wr.setCell ⟨bs, 34 + k, none⟩ (.int .u8 x)).drew) := (HB.out.setCell (p := ⟨bs, 34 + k, none⟩) HQ.out _).drew
     clear hH HX hx01 cy fy
     go_wp2
     go_roundw
     case rel => exact ⟨k + 1, by go_num, by omega, HS, HB⟩
     case measure => simp [intOf]; omega
    ·have e : k = s.size := by omega
     have q2 : ¬ (k : Int) < s.size := by omega
     go_wp2_with fail
     go_meet
     case rel => exact ⟨_, by unfold Hid; rw [e, ← HL.out]; exact nb10_all (by rw [HL.out]; exact hle), HS, HB⟩
  ·have q1 : ¬ (s.size : Int) ≤ 32 := by omega
   obtain ⟨c, V, hcv, HR, hb⟩ := conv_str s W0
   go_wp2_with fail
   refine (rsum_c (some ⟨W0.heap.size, 0, none⟩) s.size c (sd s) _ HR hs (HG.out.later (HB.out.trans (hb.mono HB.out.size)))).mono ?_
   rintro e V1 ⟨S, rfl, HS1, hb2⟩
   have hSn : Bn 32 S := by rw [HS1.out]; exact sum7_bn _
   have hb3 : Below W0.heap.size W0 V1 := hb.trans (hb2.mono hb.size)
   replace HS := hidp (HS.out.later hb3)
   replace HB := hidp (HB.out.trans (hb3.mono HB.out.size))
   clear hb hb2 hb3 HR hcv HG
   have hth := HS.out.ho.all
   obtain ⟨hlen', hone, hi⟩ := bn32_cells hSn
   obtain ⟨cs, hcs⟩ : ∃ cs, cs = (List.map (Value.int .u8) S) := ⟨_, rfl⟩
   have HCS : Hid (cs = (List.map (Value.int .u8) S)) := hcs
   rw [← hcs] at hlen' hone hi ⊢
   clear hcs
   have HS2 : Hid (Ny (V1.setCells bs 34 cs) bs z9l false 0 S z9l) := by unfold Hid; rw [HCS.out]; exact HS.out.setH hSn
   have HB2 : Hid (Below w.heap.size w (V1.setCells bs 34 cs)) := below_setCells _ HQ.out _ _ _ HB.out
   clear HS HB
   go_wp2_with (refine wpList_store_mid rfl 33 (.tmp 29) (.tmp 27) rfl bs 34 cs.toArray rfl rfl (by simpa [hlen'] using hth) (by simpa using hi) (all_oneCell_toArray hone) ?_)
   go_meet
   case rel => exact ⟨S, by unfold Hid nm10; rw [if_neg (by rw [HL.out]; exact hle)]; exact HS1.out, HS2, HB2⟩
 case rest =>
 obtain ⟨N, HN, HS2, HB2⟩ := hcut
 clear HS HB HG
 have HS := HS2
 have HB := HB2
 clear HS2 HB2
 have hNn : Bn 32 N := HS.out.bh
 have hR := HS.out.ho.rng
 have hth := HS.out.co.all
 obtain ⟨hlen', hone, hi⟩ := bn32_cells hNn
 obtain ⟨cs, hcs⟩ : ∃ cs, cs = (List.map (Value.int .u8) N) := ⟨_, rfl⟩
 have HCS : Hid (cs = (List.map (Value.int .u8) N)) := hcs
 rw [← hcs] at hlen' hone hi hR
 clear hcs
 go_wp2_with (first
  | (refine wpList_load_mid rfl 33 (.tmp 33) rfl bs 34 rfl cs _ hR Tryz.underlying33 rfl hi ?_)
  | (refine wpList_store_mid rfl 33 (.tmp 36) (.tmp 34) rfl bs 66 cs.toArray rfl rfl (by simpa [hlen'] using hth) (by simpa using hi) (all_oneCell_toArray hone) ?_))
 go_ret
 exact ⟨bs, N, rfl, HQ.out, HN, by unfold Hid; rw [HCS.out]; exact HS.out.setC hNn, below_setCells _ HQ.out _ _ _ HB.out⟩
end Go.Proofs.YtmibjgkakolhiaaGreatDoor
/-
 An append of whatever bytes to a slice of one's own: nil or not, and where it lies behind it. No statement of the seat is proved here.
-/
namespace Go.Proofs.YtmibjgkakolhiaaGreatDoor
open Go.RowKit

set_option maxRecDepth 8000 in
theorem below_gb {u v : World} {B : Nat} {row : Option Nat} (h : u.grownBy v row) (hB : B ≤ u.heap.size) (hr : ∀ k, row = some k → B ≤ k) : Below B u v :=
 ⟨h.os, h.tape, h.output, h.size, fun k hk => h.block k (by omega) (fun e => by have := hr k e.symm; omega)⟩
set_option maxRecDepth 8000 in
theorem app_l (u : World) (base : Nat) (v : Value) (n : Nat) (xl : List Int) (a : Option Addr) (m c : Nat) (l : List Int) (hown : u.ownsRow base 5 1 v n (List.map (Value.int .u8) xl)) (hr : Rd u a m c l) (hnm : n + m ≤ 140737488355328) (hbase : base ≤ u.heap.size) (ty : TypeId) :
  ∃ v' w', (Builtin.append_ #[28, 28] ty #[v, .slice a m c]).run Tryz.prog u = .ok v' w' ∧ w'.ownsRow base 5 1 v' (n + m) (List.map (Value.int .u8) (xl ++ l)) ∧ u.grownBy w' v.ownBlock ∧ Below base u w' := by
 obtain ⟨i0, hi, hz0, hz1, hz2⟩ := info_parts info5
 cases a with
 | none =>
  obtain ⟨rfl, rfl, rfl⟩ := hr.none_len
  refine ⟨v, u, run_append_owned_none u base 28 ty 5 i0 1 Tryz.underlying28 hi v n _ hown, by rw [Nat.add_zero, List.append_nil]; exact hown, ⟨rfl, rfl, rfl, Nat.le_refl _, fun _ _ _ => rfl⟩, Below.refl _ _⟩
 | some x =>
  have hn : ∀ j w, (List.map (Value.int .u8) l)[j]? = some w → u.cell? (x.add j) = some w := by
   have := hr.news m
   rwa [List.take_of_length_le (by rw [hr.hlen]; exact Nat.le_refl _)] at this
  obtain ⟨v', w', h1, h2, h3, -⟩ := run_append_own (P := Tryz.prog) u base 28 ty 5 i0 (.int .u8 0) 1 1 Tryz.underlying28 hi hz0 hz1 hz2 rfl (by decide) v n _ hown x m c (List.map (Value.int .u8) l) (by rw [List.length_map, hr.hlen, Nat.mul_one]) hn (bytes_oneCell _) (by unfold maxLen; omega) (by omega) hbase
  rw [← List.map_append] at h2
  exact ⟨v', w', h1, h2, h3, below_gb h3 hbase (fun k hk => (hown.lt k hk).1)⟩
set_option maxRecDepth 8000 in
theorem wpList_app_l {ops : Array Oper} {rest : List Oper} {o : Oper} {a : Act} {u : World} {Q : Exit → Act → World → Prop} (hgd : o.guard = none) (s x : Operand)
  (ho : o.op = .call { callee := .builtin .append, args := #[s, x], argTypes := #[28, 28] }) (base : Nat) (v : Value) (n : Nat) (xl : List Int) (hs : a.eval s = v) (hown : u.ownsRow base 5 1 v n (List.map (Value.int .u8) xl))
  (ad : Option Addr) (m c : Nat) (l : List Int) (hx : a.eval x = .slice ad m c) (hr : Rd u ad m c l) (hnm : n + m ≤ 140737488355328) (hbase : base ≤ u.heap.size)
  (h : ∀ v' w', w'.ownsRow base 5 1 v' (n + m) (List.map (Value.int .u8) (xl ++ l)) → Below base u w' → wpList Tryz.prog ops Q rest (a.put o.dst v') w') : wpList Tryz.prog ops Q (o :: rest) a u := by
 refine wpList_plain hgd fun K hK => ?_
 obtain ⟨v', w', h1, h2, -, h4⟩ := app_l u base v n xl ad m c l hown hr hnm hbase o.type
 unfold Oper.wp execOp
 simp only [ho, resolve, invoke, builtin, Sem.run_bind, Sem.run_pure, Result.andThen_ok, List.map_toArray, List.map_cons, List.map_nil, hs, hx, h1]
 exact hK _ _ (h v' w' h2 h4)
set_option maxRecDepth 8000 in
theorem owns_sh {w : World} {base n : Nat} {v : Value} {l : List Int} (h : w.ownsRow base 5 1 v n (List.map (Value.int .u8) l)) : ∃ a c, v = .slice a n c := owns_shape h
set_option maxRecDepth 8000 in
theorem rd_own {w : World} {base n c : Nat} {a : Option Addr} {l : List Int} (hb : Byt l) (h : w.ownsRow base 5 1 (.slice a n c) n (List.map (Value.int .u8) l)) : Rd w a n c l := Rd.owns hb h
set_option maxRecDepth 8000 in
/-- Where it is not empty it has a block, from the base on. -/
theorem owns_block {w : World} {base n c : Nat} {a : Option Addr} {xs : List Value} (h : w.ownsRow base 5 1 (.slice a n c) n xs) (hn : 0 < n) : ∃ g, a = some ⟨g, 0, none⟩ ∧ base ≤ g ∧ g < w.heap.size := by
 rcases h.2 with ⟨_, rfl⟩ | ⟨g, cap', cur, hv, hg, hh, _⟩
 ·omega
 ·cases hv
  exact ⟨g, rfl, hg, (Array.getElem?_eq_some_iff.1 hh).1⟩
set_option maxRecDepth 8000 in
/-- The same, and it is told where the slice lies. -/
theorem app_at (u : World) (base : Nat) (v : Value) (n : Nat) (xl : List Int) (a : Option Addr) (m c : Nat) (l : List Int) (hown : u.ownsRow base 5 1 v n (List.map (Value.int .u8) xl)) (hr : Rd u a m c l) (hnm : n + m ≤ 140737488355328) (hbase : base ≤ u.heap.size) (ty : TypeId) :
  ∃ v' w', (Builtin.append_ #[28, 28] ty #[v, .slice a m c]).run Tryz.prog u = .ok v' w' ∧ w'.ownsRow base 5 1 v' (n + m) (List.map (Value.int .u8) (xl ++ l)) ∧ u.grownBy w' v.ownBlock ∧ (v'.ownBlock = v.ownBlock ∨ v'.ownBlock = some u.heap.size) := by
 obtain ⟨i0, hi, hz0, hz1, hz2⟩ := info_parts info5
 cases a with
 | none =>
  obtain ⟨rfl, rfl, rfl⟩ := hr.none_len
  exact ⟨v, u, run_append_owned_none u base 28 ty 5 i0 1 Tryz.underlying28 hi v n _ hown, by rw [Nat.add_zero, List.append_nil]; exact hown, ⟨rfl, rfl, rfl, Nat.le_refl _, fun _ _ _ => rfl⟩, .inl rfl⟩
 | some x =>
  have hn : ∀ j w, (List.map (Value.int .u8) l)[j]? = some w → u.cell? (x.add j) = some w := by
   have := hr.news m
   rwa [List.take_of_length_le (by rw [hr.hlen]; exact Nat.le_refl _)] at this
  obtain ⟨v', w', h1, h2, h3, -, h5⟩ := run_append_own_at (P := Tryz.prog) u base 28 ty 5 i0 (.int .u8 0) 1 1 Tryz.underlying28 hi hz0 hz1 hz2 rfl (by decide) v n _ hown x m c (List.map (Value.int .u8) l) (by rw [List.length_map, hr.hlen, Nat.mul_one]) hn (bytes_oneCell _) (by unfold maxLen; omega) (by omega) hbase
  rw [← List.map_append] at h2
  exact ⟨v', w', h1, h2, h3, h5⟩
set_option maxRecDepth 8000 in
theorem wpList_app_at {ops : Array Oper} {rest : List Oper} {o : Oper} {a : Act} {u : World} {Q : Exit → Act → World → Prop} (hgd : o.guard = none) (s x : Operand)
  (ho : o.op = .call { callee := .builtin .append, args := #[s, x], argTypes := #[28, 28] }) (base : Nat) (v : Value) (n : Nat) (xl : List Int) (hs : a.eval s = v) (hown : u.ownsRow base 5 1 v n (List.map (Value.int .u8) xl))
  (ad : Option Addr) (m c : Nat) (l : List Int) (hx : a.eval x = .slice ad m c) (hr : Rd u ad m c l) (hnm : n + m ≤ 140737488355328) (hbase : base ≤ u.heap.size)
  (h : ∀ v' w', w'.ownsRow base 5 1 v' (n + m) (List.map (Value.int .u8) (xl ++ l)) → u.grownBy w' v.ownBlock → (v'.ownBlock = v.ownBlock ∨ v'.ownBlock = some u.heap.size) → wpList Tryz.prog ops Q rest (a.put o.dst v') w') : wpList Tryz.prog ops Q (o :: rest) a u := by
 refine wpList_plain hgd fun K hK => ?_
 obtain ⟨v', w', h1, h2, h3, h4⟩ := app_at u base v n xl ad m c l hown hr hnm hbase o.type
 unfold Oper.wp execOp
 simp only [ho, resolve, invoke, builtin, Sem.run_bind, Sem.run_pure, Result.andThen_ok, List.map_toArray, List.map_cons, List.map_nil, hs, hx, h1]
 exact hK _ _ (h v' w' h2 h3 h4)
end Go.Proofs.YtmibjgkakolhiaaGreatDoor
/-
 What the reference's Symm's MixHash does. No statement of the seat is proved here.
-/
namespace Go.Proofs.YtmibjgkakolhiaaGreatDoor
open Go.RowKit

set_option maxRecDepth 8000 in
set_option maxHeartbeats 4000000 in
theorem rmixhash10_c (b : Nat) (k : List Int) (h : Bool) (n : Int) (H C : List Int) (a : Option Addr) (len cap : Nat) (x : List Int) (w : World) (hs : Ny w b k h n H C) (hr : Rd w a len cap x) (hg : Gq w) (hm : len ≤ 140737488351248) :
  Calls Tryz.prog 11 #[.pointer (some ⟨b, 0, none⟩), .slice a len cap] w fun e w' => e = .returned (.tuple #[]) ∧ Hid (Ny w' b k h n (sum7 (H ++ x)) C) ∧ ExtB b w w' := by
 have HS : Hid (Ny w b k h n H C) := hs
 have HG : Hid (Gq w) := hg
 have HR : Hid (Rd w a len cap x) := hr
 have hlt := hs.lt
 clear hs hr hg
 go_enter Tryz.func11, Tryz.ntmps11
 have OL : Hid ((w.alloc (.cells #[] 5)).ownsRow w.heap.size 5 1 (.slice (some ⟨w.heap.size, 0, none⟩) 0 0) 0 (List.map (Value.int .u8) [])) := World.ownsRow_made w #[] 0 (Nat.le_refl _) (by decide) rfl
 have hb0 := bel1 w (.cells #[] 5)
 go_wp2_with (at_builtin; refine wpList_app_l rfl (.tmp 5) (.tmp 9) rfl w.heap.size _ 0 [] rfl OL.out (some ⟨b, 34, none⟩) 32 32 H rfl (HS.out.later hb0).rdH (by decide) hb0.size ?_)
 intro v1 V1 ho1 hb1
 obtain ⟨a1, c1, rfl⟩ := owns_sh ho1
 have HB1 : Hid (Below w.heap.size w V1) := hb0.trans hb1
 have HO1 : Hid (V1.ownsRow w.heap.size 5 1 (.slice a1 32 c1) 32 (List.map (Value.int .u8) H)) := ho1
 clear ho1 hb1 OL hb0
 go_wp2_with (at_builtin; refine wpList_app_l rfl (.tmp 10) (.tmp 11) rfl w.heap.size _ 32 H rfl HO1.out a len cap x rfl (HR.out.below HB1.out) (by omega) HB1.out.size ?_)
 intro v2 V2 ho2 hb2
 rw [← List.map_append] at ho2
 obtain ⟨a2, c2, rfl⟩ := owns_sh ho2
 have HB2 : Hid (Below w.heap.size w V2) := HB1.out.trans hb2
 have HRX : Hid (Rd V2 a2 (32 + len) c2 (H ++ x)) := rd_own (HS.out.bh.byt.app HR.out.byt) ho2
 clear ho2 hb2 HO1 HB1
 go_wp2_with fail
 refine (rsum_c a2 (32 + len) c2 (H ++ x) _ HRX.out (by omega) (HG.out.later HB2.out)).mono ?_
 rintro e V ⟨S, rfl, HS1, hb⟩
 have hSn : Bn 32 S := by rw [HS1.out]; exact sum7_bn _
 have hb2 : Below w.heap.size w V := HB2.out.trans (hb.mono HB2.out.size)
 replace HS := hidp (HS.out.later hb2)
 have HE : Hid (ExtB b w V) := extb_of hb2
 clear hb hb2 HRX HG HR HB2
 have hth := HS.out.ho.all
 obtain ⟨hlen', hone, hi⟩ := bn32_cells hSn
 obtain ⟨cs, hcs⟩ : ∃ cs, cs = (List.map (Value.int .u8) S) := ⟨_, rfl⟩
 have HCS : Hid (cs = (List.map (Value.int .u8) S)) := hcs
 rw [← hcs] at hlen' hone hi ⊢
 clear hcs
 go_wp2_with (refine wpList_store_mid rfl 33 (.tmp 15) (.tmp 13) rfl b 34 cs.toArray rfl rfl (by simpa [hlen'] using hth) (by simpa using hi) (all_oneCell_toArray hone) ?_)
 go_end0
 exact ⟨rfl, by unfold Hid; rw [HCS.out, ← HS1.out]; exact HS.out.setH hSn, extB_setCells _ _ _ HE.out⟩
end Go.Proofs.YtmibjgkakolhiaaGreatDoor
