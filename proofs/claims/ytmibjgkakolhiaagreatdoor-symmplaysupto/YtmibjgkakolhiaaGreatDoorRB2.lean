/-
 What the reference's Sum does: BLAKE2s of a list of bytes. No statement of the seat is proved here.
-/
import Derived.Test.YtmibjgkakolhiaaGreatDoorPk4
import Derived.Test.YtmibjgkakolhiaaGreatDoorRB1
import Derived.Test.YtmibjgkakolhiaaGreatDoorPk10
import Derived.Test.YtmibjgkakolhiaaGreatDoorPk8
import Derived.Laws.IdiomCopy
namespace Go.Proofs.YtmibjgkakolhiaaGreatDoor
open Go.RowKit

def rowI : List Int := [0, 4, 8, 12, 1, 5, 9, 13, 2, 6, 10, 14, 3, 7, 11, 15, 0, 5, 10, 15, 1, 6, 11, 12, 2, 7, 8, 13, 3, 4, 9, 14]
def sigI : List Int := sg7.flatten.map Int.ofNat
/-- The reference's variables, as their text lays them. -/
structure Gq (w : World) : Prop where
 iv : w.rangeAt 0 0 (List.map (Value.int .u32) iv7)
 rows : w.rangeAt 1 0 (List.map (Value.int .i64) rowI)
 sg : w.rangeAt 2 0 (List.map (Value.int .i64) sigI)
set_option maxRecDepth 8000 in
theorem Gq.later {u u' : World} (h : Gq u) (hb : Below u.heap.size u u') : Gq u' := ⟨range_later hb h.iv, range_later hb h.rows, range_later hb h.sg⟩
set_option maxRecDepth 8000 in
theorem Gq.ivlt {u : World} (h : Gq u) : 0 < u.heap.size := World.block_lt_of_cell? u _ (h.iv 0 (.int .u32 1779033703) rfl)
set_option maxRecDepth 8000 in
theorem Gq.rolt {u : World} (h : Gq u) : 1 < u.heap.size := World.block_lt_of_cell? u _ (h.rows 0 (.int .i64 0) rfl)
set_option maxRecDepth 8000 in
theorem Gq.sglt {u : World} (h : Gq u) : 2 < u.heap.size := World.block_lt_of_cell? u _ (h.sg 0 (.int .i64 0) rfl)
set_option maxRecDepth 8000 in
theorem Gq.ivAt {u : World} (h : Gq u) (k : Nat) (hk : k < 8) : u.cell? ⟨0, k, none⟩ = some (.int .u32 iv7[k]!) := by
 have hl : k < iv7.length := hk
 have := h.iv k (.int .u32 iv7[k]!) (by rw [List.getElem?_map, List.getElem?_eq_getElem hl, getElem!_pos iv7 k hl]; rfl)
 rwa [Nat.zero_add] at this
def rq (j i : Nat) : Nat := (rowI[4 * j + i]?.getD 0).toNat
set_option maxRecDepth 8000 in
theorem rq_lt : ∀ j < 8, ∀ i < 4, rq j i < 16 := by decide
set_option maxRecDepth 8000 in
theorem rq_row : ∀ j < 8, (rowI.drop (4 * j)).take 4 = [((rq j 0 : Nat) : Int), ((rq j 1 : Nat) : Int), ((rq j 2 : Nat) : Int), ((rq j 3 : Nat) : Int)] := by decide
set_option maxRecDepth 8000 in
theorem rq_rw : ∀ j < 8, rw7[j]! = (rq j 0, rq j 1, rq j 2, rq j 3) := by decide
set_option maxRecDepth 8000 in
theorem Gq.rowAt {u : World} (h : Gq u) (j : Nat) (hj : j < 8) : u.rangeAt 1 (j * 4) [.int .i64 ((rq j 0 : Nat) : Int), .int .i64 ((rq j 1 : Nat) : Int), .int .i64 ((rq j 2 : Nat) : Int), .int .i64 ((rq j 3 : Nat) : Int)] := by
 have := range_sub h.rows (4 * j) 4
 rw [Nat.zero_add, ← List.map_drop, ← List.map_take, rq_row j hj, Nat.mul_comm] at this
 exact this
set_option maxRecDepth 100000 in
theorem sigI_at : ∀ k < 10, ∀ i < 16, sigI[k * 16 + i]? = some (((sg7[k]!)[i]! : Nat) : Int) := by decide +kernel
set_option maxRecDepth 8000 in
theorem Gq.sgAt {u : World} (h : Gq u) (k i : Nat) (hk : k < 10) (hi : i < 16) : u.cell? ⟨2, k * 16 + i, none⟩ = some (.int .i64 (((sg7[k]!)[i]! : Nat) : Int)) := by
 have := h.sg (k * 16 + i) (.int .i64 (((sg7[k]!)[i]! : Nat) : Int)) (by rw [List.getElem?_map, sigI_at k hk i hi]; rfl)
 rwa [Nat.zero_add] at this
structure Rs (w : World) (q2 bh : Nat) (h : List Int) (u : World) : Prop where
 res : u.there q2 0 32
 hh : Ar u bh 8 (List.map (Value.int .u32) h)
 bel : Below w.heap.size w u
set_option maxRecDepth 8000 in
theorem Rs.later {w u u' : World} {q2 bh : Nat} {h : List Int} (r : Rs w q2 bh h u) (hb : Below u.heap.size u u') : Rs w q2 bh h u' := ⟨there_later hb r.res, r.hh.later hb, r.bel.trans (hb.mono r.bel.size)⟩
set_option maxRecDepth 8000 in
theorem Rs.extb {w u u' : World} {q2 bh b : Nat} {h : List Int} (r : Rs w q2 bh h u) (hb : ExtB b u u') (h1 : q2 ≠ b) (h2 : bh ≠ b) (h3 : w.heap.size ≤ b) : Rs w q2 bh h u' := ⟨there_extb hb h1 r.res, r.hh.extb hb h2, hb.below r.bel h3⟩
set_option maxRecDepth 8000 in
theorem Rs.setH {w u : World} {q2 bh : Nat} {h : List Int} (r : Rs w q2 bh h u) (h3 : w.heap.size ≤ bh) (i : Nat) (hi : i < 8) (x : Int) : Rs w q2 bh (h.set i x) (u.setCell ⟨bh, i, none⟩ (.int .u32 x)) := ⟨there_set r.res _ _ _, by rw [List.map_set]; exact r.hh.set i hi _, r.bel.setCell (p := ⟨bh, i, none⟩) h3 _⟩
set_option maxRecDepth 8000 in
theorem Ow.there {u : World} {g n : Nat} {l : List Int} (h : Ow u g n l) : u.there g 0 n := fun j hj => by
 obtain ⟨v, h1, h2, _⟩ := h.cell j hj
 rw [Nat.zero_add]
 exact ⟨by rw [h1]; rfl, h2⟩
set_option maxRecDepth 8000 in
theorem Ow.ar {u : World} {g n : Nat} {l : List Int} (h : Ow u g n l) : Ar u g n (List.map (Value.int .u8) l) := ⟨fun j v hv => by
 have hj : j < n := by have := (List.getElem?_eq_some_iff.1 hv).1; rw [List.length_map, h.len] at this; exact this
 obtain ⟨x, h1, _, h3, _⟩ := h.cell j hj
 rw [Nat.zero_add, h1]
 rw [List.getElem?_map, h3] at hv
 exact hv, h.there, by rw [List.length_map, h.len]⟩
set_option maxRecDepth 8000 in
theorem Rd.restA {u : World} {x : Addr} {r c : Nat} {l : List Int} (h : Rd u (some x) r c l) (m : Nat) (hm : m ≤ r) : Rd u (if c = m then some x else some (x.add m)) (r - m) (c - m) (l.drop m) := by
 by_cases h0 : 0 < r
 ·obtain ⟨b, o, e, -⟩ := h.cell h0
  cases e
  have := h.rest m hm
  rwa [← Addr.add_mid] at this
 ·have e1 : r - m = 0 := by omega
  rw [e1, List.drop_eq_nil_of_le (by rw [h.hlen]; omega)]
  refine Rd.nil _ _ _ (fun e => ?_)
  split at e <;> cases e
set_option maxRecDepth 8000 in
theorem pad7_copy (c : List Int) : (List.replicate 64 (0 : Int)).take 0 ++ (c ++ (List.replicate 64 0).drop (0 + c.length)) = pad7 c := by
 unfold pad7
 rw [List.take_zero, List.nil_append, Nat.zero_add, List.drop_replicate]

set_option maxRecDepth 8000 in
theorem Rs.setO {w u : World} {q2 bh : Nat} {h : List Int} (r : Rs w q2 bh h u) (b i : Nat) (h2 : bh ≠ b) (h3 : w.heap.size ≤ b) (v : Value) : Rs w q2 bh h (u.setCell ⟨b, i, none⟩ v) := ⟨there_set r.res _ _ _, r.hh.else _ _ h2 _, r.bel.setCell (p := ⟨b, i, none⟩) h3 _⟩
set_option maxRecDepth 8000 in
theorem Rs.drew {w u : World} {q2 bh : Nat} {h : List Int} (r : Rs w q2 bh h u) : Rs w q2 bh h u.drew := r.later (Below.refl _ _).drew
structure Rm (w : World) (q2 bh gb bm : Nat) (h B M : List Int) (u : World) : Prop where
 r : Rs w q2 bh h u
 blk : Ar u gb 64 (List.map (Value.int .u8) B)
 m : Ar u bm 16 (List.map (Value.int .u32) M)
set_option maxRecDepth 8000 in
theorem Rm.later {w u u' : World} {q2 bh gb bm : Nat} {h B M : List Int} (x : Rm w q2 bh gb bm h B M u) (hb : Below u.heap.size u u') : Rm w q2 bh gb bm h B M u' := ⟨x.r.later hb, x.blk.later hb, x.m.later hb⟩
set_option maxRecDepth 8000 in
theorem Rm.set {w u : World} {q2 bh gb bm : Nat} {h B M : List Int} (x : Rm w q2 bh gb bm h B M u) (h1 : bh ≠ bm) (h2 : gb ≠ bm) (h3 : w.heap.size ≤ bm) (i : Nat) (hi : i < 16) (y : Int) : Rm w q2 bh gb bm h B (M.set i y) (u.setCell ⟨bm, i, none⟩ (.int .u32 y)) := ⟨x.r.setO _ _ h1 h3 _, x.blk.else _ _ h2 _, by rw [List.map_set]; exact x.m.set i hi _⟩
structure Rv (w : World) (q2 bh bm bv : Nat) (h M V : List Int) (u : World) : Prop where
 r : Rs w q2 bh h u
 m : Ar u bm 16 (List.map (Value.int .u32) M)
 v : Ar u bv 16 (List.map (Value.int .u32) V)
set_option maxRecDepth 8000 in
theorem Rv.later {w u u' : World} {q2 bh bm bv : Nat} {h M V : List Int} (x : Rv w q2 bh bm bv h M V u) (hb : Below u.heap.size u u') : Rv w q2 bh bm bv h M V u' := ⟨x.r.later hb, x.m.later hb, x.v.later hb⟩
set_option maxRecDepth 8000 in
theorem Rv.setV {w u : World} {q2 bh bm bv : Nat} {h M V : List Int} (x : Rv w q2 bh bm bv h M V u) (h1 : bh ≠ bv) (h2 : bm ≠ bv) (h3 : w.heap.size ≤ bv) (i : Nat) (hi : i < 16) (y : Int) : Rv w q2 bh bm bv h M (V.set i y) (u.setCell ⟨bv, i, none⟩ (.int .u32 y)) := ⟨x.r.setO _ _ h1 h3 _, x.m.else _ _ h2 _, by rw [List.map_set]; exact x.v.set i hi _⟩
set_option maxRecDepth 8000 in
theorem Rv.setH {w u : World} {q2 bh bm bv : Nat} {h M V : List Int} (x : Rv w q2 bh bm bv h M V u) (h1 : bv ≠ bh) (h2 : bm ≠ bh) (h3 : w.heap.size ≤ bh) (i : Nat) (hi : i < 8) (y : Int) : Rv w q2 bh bm bv (h.set i y) M V (u.setCell ⟨bh, i, none⟩ (.int .u32 y)) := ⟨x.r.setH h3 i hi y, x.m.else _ _ h2 _, x.v.else _ _ h1 _⟩
set_option maxRecDepth 8000 in
theorem Rv.mixed {w u u' : World} {q2 bh bm bv : Nat} {h M V V' : List Int} (x : Rv w q2 bh bm bv h M V u) (hb : ExtB bv u u') (hv : Ar u' bv 16 (List.map (Value.int .u32) V')) (h0 : q2 ≠ bv) (h1 : bh ≠ bv) (h2 : bm ≠ bv) (h3 : w.heap.size ≤ bv) : Rv w q2 bh bm bv h M V' u' := ⟨x.r.extb hb h0 h1 h3, x.m.extb hb h2, hv⟩
set_option maxRecDepth 8000 in
theorem range_ext {b c o : Nat} {a u : World} {cs : List Value} (h : ExtB b a u) (hc : c ≠ b) (hr : a.rangeAt c o cs) : u.rangeAt c o cs := fun j v hv => ExtB.cell h hc (hr j v hv)
set_option maxRecDepth 8000 in
theorem ou7_at (h : List Int) : ∀ (n i c : Nat), i < n → c < 4 → (ou7 h n)[4 * i + c]! = (lay 4 h[i]!)[c]!
 | 0, _, _, h, _ => by omega
 | n + 1, i, c, hi, hc => by
  rw [ou7]
  by_cases hin : i < n
  ·rw [getElem!_pos _ _ (by rw [List.length_append, ou7_len]; omega), List.getElem_append_left (by rw [ou7_len]; omega), ← ou7_at h n i c hin hc, getElem!_pos (ou7 h n) _ (by rw [ou7_len]; omega)]
  ·have e : i = n := by omega
   subst e
   rw [getElem!_pos _ _ (by rw [List.length_append, ou7_len, lay_length]; omega), List.getElem_append_right (by rw [ou7_len]; omega), getElem!_pos (lay 4 h[i]!) c (by rw [lay_length]; exact hc)]
   congr 1
   rw [ou7_len]
   omega
structure Ro (w : World) (q2 bh bo : Nat) (h O : List Int) (u : World) : Prop where
 r : Rs w q2 bh h u
 o : Ar u bo 32 (List.map (Value.int .u8) O)
set_option maxRecDepth 8000 in
theorem Ro.later {w u u' : World} {q2 bh bo : Nat} {h O : List Int} (x : Ro w q2 bh bo h O u) (hb : Below u.heap.size u u') : Ro w q2 bh bo h O u' := ⟨x.r.later hb, x.o.later hb⟩
set_option maxRecDepth 8000 in
theorem Ro.set {w u : World} {q2 bh bo : Nat} {h O : List Int} (x : Ro w q2 bh bo h O u) (h1 : bh ≠ bo) (h3 : w.heap.size ≤ bo) (i : Nat) (hi : i < 32) (y : Int) : Ro w q2 bh bo h (O.set i y) (u.setCell ⟨bo, i, none⟩ (.int .u8 y)) := ⟨x.r.setO _ _ h1 h3 _, by rw [List.map_set]; exact x.o.set i hi _⟩
def z32l : List Int := [0, 0, 0, 0, 0, 0, 0, 0, 0, 0, 0, 0, 0, 0, 0, 0, 0, 0, 0, 0, 0, 0, 0, 0, 0, 0, 0, 0, 0, 0, 0, 0]
set_option maxRecDepth 8000 in
theorem rput32_g (n : Int) (w : World) (h : W7 n) :
  Calls Tryz.prog 38 #[.int .u32 n] w fun e w' => ∃ g, e = .returned (.slice (some ⟨g, 0, none⟩) 4 4) ∧ Hid (Ow w' g 4 (lay 4 n)) ∧ w.heap.size ≤ g ∧ Below w.heap.size w w' := by
 refine (refput32_any n w h.1 h.2).mono ?_
 rintro e w' ⟨rfl, ho, hb⟩
 exact ⟨_, rfl, ⟨⟨_, ho⟩, lay_byt 4 n⟩, Nat.le_refl _, hb⟩

set_option maxRecDepth 8000 in
set_option maxHeartbeats 16000000 in
theorem rsum_c (a : Option Addr) (len cap : Nat) (X : List Int) (w : World) (hr : Rd w a len cap X) (hlen : len ≤ 140737488355328) (hg : Gq w) :
  Calls Tryz.prog 24 #[.slice a len cap] w fun e w' => ∃ S, e = .returned (.agg (List.map (Value.int .u8) S).toArray) ∧ Hid (S = sum7 X) ∧ Below w.heap.size w w' := by
 have HR0 : Hid (Rd w a len cap (X.drop (64 * 0))) := hr
 have HXL : Hid (X.length = len) := hr.hlen
 have HXB : Hid (Byt X) := hr.byt
 have HG : Hid (Gq w) := hg
 have g0 := hg.ivlt
 have g1 := hg.rolt
 have g2 := hg.sglt
 obtain ⟨i0, hi, hz0, hz1, hz2⟩ := info_parts info5
 obtain ⟨hlen8, hone8, hi8⟩ := st_cells iv7_w
 obtain ⟨ivs, hivs⟩ : ∃ cs, cs = (List.map (Value.int .u32) iv7) := ⟨_, rfl⟩
 rw [← hivs] at hlen8 hone8 hi8
 have HIV : Hid (ivs = (List.map (Value.int .u32) iv7)) := hivs
 clear hr hg hivs
 go_enter Tryz.func24, Tryz.ntmps24
 go_upto_region 1 with fail
 have HD : Hid ((w.alloc (.cells zb32 33)).there w.heap.size 0 32) := there_new _ 32 zb32 rfl 33
 have HB : Hid (Below w.heap.size w (w.alloc (.cells zb32 33))) := bel1 _ _
 obtain ⟨W0, hW0⟩ : ∃ W, W = w.alloc (.cells zb32 33) := ⟨_, rfl⟩
 obtain ⟨q2, hq2⟩ : ∃ q, q = w.heap.size := ⟨_, rfl⟩
 rw [← hW0] at HD HB ⊢
 have HQ : Hid (q2 = w.heap.size) := hq2
 rw [← hq2] at HD ⊢
 have k1 : q2 < W0.heap.size := there_lt HD.out (by decide)
 clear hW0 hq2
 have hivr : W0.rangeAt 0 0 ivs := by rw [HIV.out]; exact (HG.out.later HB.out).iv
 have hth := there_new W0 8 zw8 rfl 64
 go_upto_region 2 with (first
  | (refine wpList_load_mid rfl 64 (.global 0) rfl 0 0 rfl ivs _ hivr Tryz.underlying64 rfl hi8 ?_)
  | (refine wpList_store_mid rfl 64 (.tmp 3) (.tmp 19) rfl W0.heap.size 0 ivs.toArray rfl rfl (by simpa [hlen8] using hth) (by simpa using hi8) (all_oneCell_toArray hone8) ?_))
 clear hth hivr hone8 hi8
 have AH : Hid (Ar ((W0.alloc (.cells zw8 64)).setCells W0.heap.size 0 ivs) W0.heap.size 8 (List.map (Value.int .u32) iv7)) := by rw [← HIV.out]; exact ar_var W0 _ 8 rfl _ _ hlen8
 have HV : Hid (Below W0.heap.size W0 ((W0.alloc (.cells zw8 64)).setCells W0.heap.size 0 ivs)) := bel_var _ _ _ _
 obtain ⟨W1, hW1⟩ : ∃ W, W = (W0.alloc (.cells zw8 64)).setCells W0.heap.size 0 ivs := ⟨_, rfl⟩
 obtain ⟨bh, hbh⟩ : ∃ q, q = W0.heap.size := ⟨_, rfl⟩
 rw [← hW1] at AH HV ⊢
 rw [← hbh] at AH k1 ⊢
 have kw : w.heap.size ≤ bh := by rw [hbh]; exact HB.out.size
 have HS : Hid (Rs w q2 bh iv7 W1) := ⟨there_later HV.out HD.out, AH.out, HB.out.trans (HV.out.mono HB.out.size)⟩
 clear hW1 hbh HV HD HB AH hlen8 HIV
 obtain ⟨x, cx, fx, rx, HX⟩ := wn_word HS.out.hh iv7_w 0 (by decide)
 go_upto_region 3 with fail
 have HS2 : Hid (Rs w q2 bh (hb7 X 0) (W1.setCell ⟨bh, 0, none⟩ (.int .u32 (bits .xor .u32 x 16842784)))) := by
  have := HS.out.setH kw 0 (by decide) (bits .xor .u32 x 16842784)
  rw [HX.out] at this ⊢
  exact this
 obtain ⟨W2, hW2⟩ : ∃ W, W = W1.setCell ⟨bh, 0, none⟩ (.int .u32 (bits .xor .u32 x 16842784)) := ⟨_, rfl⟩
 rw [← hW2] at HS2 ⊢
 clear hW2 cx fx rx HX HS
 go_wp2
 go_loopw [0, 4] (fun tv kv wr => ∃ (k r : Nat) (t : Int) (a' : Option Addr) (c' : Nat), tv = .slice a' r c' ∧ kv = .int .u64 t ∧ Hid (t = ((64 * k : Nat) : Int)) ∧ 64 * k + r = len ∧ (k = 0 ∨ 0 < r) ∧ Hid (Rd w a' r c' (X.drop (64 * k))) ∧ Hid (Rs w q2 bh (hb7 X k) wr)) (fun tv _ _ => slen tv)
 case atStart => exact ⟨0, len, 0, a, cap, rfl, rfl, rfl, by omega, .inl rfl, HR0, HS2⟩
 case round =>
  clear HS2 HR0
  obtain ⟨k, r, t, a', c', rfl, rfl, HT, hkr, hk0, HR, HS⟩ := hrel
  have HHW : Hid (Wn 8 (hb7 X k)) := hb7_w X k
  obtain ⟨h, hh⟩ : ∃ h, h = hb7 X k := ⟨_, rfl⟩
  rw [← hh] at HS HHW
  have HH : Hid (h = hb7 X k) := hh
  clear hh
  go_upto_region 5 with fail
  obtain ⟨last, HLA⟩ : ∃ z, Hid (z = decide ((r : Int) ≤ 64)) := ⟨_, rfl⟩
  rw [← HLA.out]
  go_cut [6] from 24 to 137 (fun v wx => ∃ n : Nat, v = .int .i64 n ∧ n ≤ 64 ∧ n ≤ r ∧ (r ≤ 64 → n = r) ∧ (64 < r → n = 64) ∧ wx = wr)
  case first =>
   by_cases hle : 64 ≤ r
   ·have q1 : (64 : Int) ≤ (r : Int) := by omega
    go_wp2_with fail
    go_meet
    case rel => exact ⟨64, rfl, by omega, by omega, fun h => by omega, fun _ => rfl, rfl⟩
   ·have q1 : ¬ (64 : Int) ≤ (r : Int) := by omega
    go_wp2_with fail
    go_meet
    case rel => exact ⟨r, rfl, by omega, Nat.le_refl _, fun _ => rfl, fun h => by omega, rfl⟩
  case rest =>
  obtain ⟨n, rfl, hn64, hnr, hn1, hn2, hwc⟩ := hcut
  rw [hwc]
  clear hwc
  obtain ⟨C, HC⟩ : ∃ c, Hid (c = (X.drop (64 * k)).take n) := ⟨_, rfl⟩
  have hCl : C.length = n := by rw [HC.out, List.length_take, HR.out.hlen]; omega
  have HCB : Hid (Byt C) := by unfold Hid; rw [HC.out]; exact (HXB.out.drop _).take n
  go_wp2_with (at_make; refine wpList_make_full _ rfl _ _ 28 rfl wr.heap.size 5 i0 (.int .u8 0) 1 Tryz.underlying28 hi hz0 hz1 _ _ _ _ 64 rfl rfl rfl rfl (by rw [hz2]; decide) (by unfold maxLen; decide) (Nat.le_refl _) ?_)
  intro W3 hown hgrow
  have hb : Below wr.heap.size wr W3 := (Below.refl _ _).grown hgrow (Nat.le_refl _) (fun k h => by cases h)
  have HO : Hid (Ow W3 wr.heap.size 64 (List.replicate 64 0)) := ⟨⟨wr.heap.size, by rw [← made_zero]; simpa [Value.cells] using hown⟩, byt_zero 64⟩
  have hq2w : q2 < wr.heap.size := there_lt HS.out.res (by decide)
  have hbhw : bh < wr.heap.size := HS.out.hh.lt (by decide)
  obtain ⟨gb, hgb⟩ : ∃ q, q = wr.heap.size := ⟨_, rfl⟩
  rw [← hgb] at HO hq2w hbhw ⊢
  have kgb : w.heap.size ≤ gb := by rw [hgb]; exact HS.out.bel.size
  have HS3 : Hid (Rs w q2 bh h W3) := HS.out.later hb
  have hgW : gb < W3.heap.size := HO.out.lt
  clear hown hgrow hb hgb HS
  go_upto_region 7 with fail
  go_cut [] from 24 to 137 (fun wx => Hid (Ar wx gb 64 (List.map (Value.int .u8) (pad7 C))) ∧ Hid (ExtB gb W3 wx))
  case first =>
   have hA := HO.out.ar
   have hAC : Ar (W3.setCells gb 0 (List.map (Value.int .u8) C)) gb 64 (List.map (Value.int .u8) (pad7 C)) := by
    have := hA.part 0 (List.map (Value.int .u8) C) (by rw [List.length_map]; omega)
    rw [List.length_map, ← List.map_take, ← List.map_drop, ← List.map_append, ← List.map_append, pad7_copy] at this
    exact this
   rcases a' with _ | ⟨ba, off, sp⟩
   ·obtain ⟨hr0, hc0, -⟩ := HR.out.none_len
    have hn0 : n = 0 := by omega
    have hC0 : C = [] := List.eq_nil_of_length_eq_zero (by omega)
    subst hr0 hc0 hn0
    have hcp := fun ty => run_copy_none (P := Tryz.prog) W3 28 28 ty 5 (some ⟨gb, 0, none⟩) none 64 64 0 0 Tryz.underlying28 (by kernel_rfl) (by decide)
    go_wp2_with fail
    go_meet
    case rel => exact ⟨by rw [hC0] at hAC ⊢; exact hAC, ExtB.refl _ _⟩
   ·have hle := HR.out.hle
    have qn0 : 0 ≤ (n : Int) := by omega
    have qn1 : (n : Int) ≤ c' := by omega
    have hcp := fun ty => copy_c W3 gb 0 64 64 ⟨ba, off, sp⟩ n c' C ((HC.out ▸ (HR.out.cut n hnr)).below HS3.out.bel) n (by omega) (there_part HO.out.there 0 n (by omega)) ty
    rw [List.take_of_length_le (by omega)] at hcp
    go_wp2_with fail
    go_meet
    case rel => exact ⟨hAC, extB_setCells _ _ _ (ExtB.refl _ _)⟩
  case rest =>
  obtain ⟨AB, HE3⟩ := hcut
  replace HS3 : Hid (Rs w q2 bh h wc) := HS3.out.extb HE3.out (by omega) (by omega) kgb
  have hgW2 : gb < wc.heap.size := AB.out.lt (by decide)
  obtain ⟨W4, hW4⟩ : ∃ W, W = wc := ⟨_, rfl⟩
  rw [← hW4] at AB HS3 hgW2 ⊢
  clear HO HE3 hgW hW4
  go_upto_region 8 with fail
  go_cut [0] from 24 to 137 (fun tv wx => ∃ (a2 : Option Addr) (c2 : Nat), tv = .slice a2 (r - n) c2 ∧ Hid (Rd w a2 (r - n) c2 (X.drop (64 * k + n))) ∧ wx = W4)
  case first =>
   rcases a' with _ | ⟨ba, off, sp⟩
   ·obtain ⟨hr0, hc0, hX0⟩ := HR.out.none_len
    have hn0 : n = 0 := by omega
    subst hr0 hc0 hn0
    go_wp2_with fail
    go_meet
    case rel => exact ⟨none, 0, rfl, HR.out, rfl⟩
   ·have hle := HR.out.hle
    have qn0 : 0 ≤ (n : Int) := by omega
    have qn1 : (n : Int) ≤ c' := by omega
    have qn2 : (n : Int) ≤ r := by omega
    have hR8 := HR.out.restA n hnr
    rw [List.drop_drop] at hR8
    by_cases hcn : c' = n
    ·rw [if_pos hcn] at hR8
     rw [show c' - n = 0 by omega] at hR8
     go_wp2_with fail
     go_meet
     case rel => exact ⟨_, _, rfl, hR8, rfl⟩
    ·rw [if_neg hcn] at hR8
     go_wp2_with fail
     go_meet
     case rel => exact ⟨_, _, rfl, hR8, rfl⟩
  case rest =>
  obtain ⟨a2, c2, rfl, HR2, hwc⟩ := hcut
  rw [hwc]
  clear hwc HR
  have ht0 : 0 ≤ t := by rw [HT.out]; omega
  have htn : t + n < 18446744073709551616 := by have := HT.out; omega
  obtain ⟨t2, ht2⟩ : ∃ z : Int, z = t + n := ⟨_, rfl⟩
  have hw1 : IntKind.u64.wrap (n : Int) = n := by rw [IntKind.wrap_u64]; omega
  have hw2 : IntKind.u64.wrap (t + (n : Int)) = t + n := by rw [IntKind.wrap_u64]; omega
  have HBB : Hid (Byt (pad7 C)) := HCB.out.app (byt_zero7 _)
  have hBl : (pad7 C).length = 64 := pad7_len (by omega)
  obtain ⟨B, HB⟩ : ∃ b, Hid (b = pad7 C) := ⟨_, rfl⟩
  rw [← HB.out] at AB HBB hBl
  obtain ⟨M, HMM⟩ : ∃ m, Hid (m = wd7 B 16) := ⟨_, rfl⟩
  have HMW : Hid (Wn 16 M) := by unfold Hid; rw [HMM.out]; exact wd7_w HBB.out 16
  go_upto_region 11 with fail
  try rw [← ht2]
  have HT2 : Hid (t2 = ((64 * k + n : Nat) : Int)) := by unfold Hid; rw [ht2, HT.out]; omega
  rw [← ht2] at htn
  have ht20 : 0 ≤ t2 := by omega
  clear ht2 hw1 hw2 ht0
  have AM : Hid (Ar (W4.alloc (.cells zw16 65)) W4.heap.size 16 (List.map (Value.int .u32) (mk7 M z16w 0))) := by unfold Hid; rw [mk7_zero]; exact ar_box W4 (List.map (Value.int .u32) z16w) 16 rfl 65
  have hb5 : Below W4.heap.size W4 (W4.alloc (.cells zw16 65)) := bel1 _ _
  obtain ⟨W5, hW5⟩ : ∃ W, W = W4.alloc (.cells zw16 65) := ⟨_, rfl⟩
  obtain ⟨bm, hbm⟩ : ∃ q, q = W4.heap.size := ⟨_, rfl⟩
  rw [← hW5] at AM hb5 ⊢
  rw [← hbm] at AM hgW2 ⊢
  have kbm : w.heap.size ≤ bm := by rw [hbm]; exact HS3.out.bel.size
  have HM : Hid (Rm w q2 bh gb bm h B (mk7 M z16w 0) W5) := ⟨HS3.out.later hb5, AB.out.later hb5, AM.out⟩
  clear hW5 hbm hb5 AM AB HS3
  go_wp2
  go_loopw [9] (fun i wr => ∃ j : Nat, j ≤ 16 ∧ i = .int .i64 j ∧ Hid (Rm w q2 bh gb bm h B (mk7 M z16w j) wr)) (fun i _ => 16 - (intOf i).toNat)
  case atStart => exact ⟨0, by decide, rfl, HM⟩
  case round =>
   clear HM
   obtain ⟨j, hj, rfl, HM⟩ := hrel
   by_cases hlt : j < 16
   ·have g1 : (j : Int) < 16 := by omega
    have g2 : 4 * (j : Int) + 4 ≤ 64 := by omega
    have g3 : 4 * (j : Int) ≤ 4 * (j : Int) + 4 := by omega
    have g4 : 0 ≤ 4 * (j : Int) := by omega
    have hR : Rd wr (some ⟨gb, 4 * j, none⟩) 4 (64 - 4 * j) ((B.drop (4 * j)).take 4) := HM.out.blk.rd HBB.out (4 * j) 4 (64 - 4 * j) (by omega) (by omega)
    have HR : Hid _ := hR
    clear hR
    obtain ⟨x, cx, fx, -, -⟩ := wn_word HM.out.m (mk7_w HMW.out z16w_w j) j hlt
    have t1 : (4 * (j : Int)).toNat = 4 * j := by omega
    have t2 : (4 * (j : Int) + 4).toNat = 4 * j + 4 := by omega
    have t3 : 4 * j + 4 - 4 * j = 4 := by omega
    have t4 : ¬ 64 = 4 * j := by omega
    go_wp2_with fail
    refine (refget32_any _ _ _ _ _ HR.out (by decide)).mono ?_
    rintro e V ⟨rfl, nq, hV⟩
    rw [got4_cut _ _ (Nat.le_refl _) (by rw [List.length_drop, hBl]; omega), ← wd7_at B 16 j hlt, ← HMM.out]
    obtain ⟨y, HY⟩ : ∃ y, Hid (y = M[j]!) := ⟨_, rfl⟩
    rw [← HY.out]
    have hy : W7 y := by rw [HY.out]; exact getW7 HMW.out.wd j
    have hb : Below wr.heap.size wr V := by rw [hV]; exact below_drewN (Below.refl _ _) _
    replace cx := cell_later hb cx
    replace fx := froz_later hb (HM.out.m.lt (by decide)) fx
    replace HM := hidp (HM.out.later hb)
    clear hV hb HR
    obtain ⟨y0, y1⟩ := hy
    go_wp2
    go_roundw
    case rel => exact ⟨j + 1, by omega, by go_num, by
     have := HM.out.set (by omega) (by omega) kbm j hlt y
     rw [mk7_set (by rw [HMW.out.len]; exact hlt) (by exact hlt) HY.out] at this
     exact this⟩
    case measure => simp [intOf]; omega
   ·have e : j = 16 := by omega
    subst e
    rw [mk7_all (by rw [HMW.out.len]; decide) 16 HMW.out.len.symm] at HM
    clear hlt hj
    go_upto_region 16 with fail
    have AV : Hid (Ar (wr.alloc (.cells zw16 65)) wr.heap.size 16 (List.map (Value.int .u32) (vk7 h 0))) := by unfold Hid; rw [vk7_zero]; exact ar_box wr (List.map (Value.int .u32) (List.replicate 16 0)) 16 rfl 65
    have hb6 : Below wr.heap.size wr (wr.alloc (.cells zw16 65)) := bel1 _ _
    have kmW : bm < wr.heap.size := HM.out.m.lt (by decide)
    obtain ⟨W6, hW6⟩ : ∃ W, W = wr.alloc (.cells zw16 65) := ⟨_, rfl⟩
    obtain ⟨bv, hbv⟩ : ∃ q, q = wr.heap.size := ⟨_, rfl⟩
    rw [← hW6] at AV hb6 ⊢
    rw [← hbv] at AV kmW ⊢
    have kv : w.heap.size ≤ bv := by omega
    have HV : Hid (Rv w q2 bh bm bv h M (vk7 h 0) W6) := ⟨HM.out.r.later hb6, HM.out.m.later hb6, AV.out⟩
    clear hW6 hbv hb6 AV HM
    go_wp2
    go_loopw [11] (fun i wr => ∃ j : Nat, j ≤ 8 ∧ i = .int .i64 j ∧ Hid (Rv w q2 bh bm bv h M (vk7 h j) wr)) (fun i _ => 8 - (intOf i).toNat)
    case atStart => exact ⟨0, by decide, rfl, HV⟩
    case round =>
     clear HV
     obtain ⟨j, hj, rfl, HV⟩ := hrel
     by_cases hlt : j < 8
     ·have c1 : (j : Int) < 8 := by omega
      have c2 : (j : Int) < 16 := by omega
      obtain ⟨x, cx, fx, rx, HX⟩ := wn_word HV.out.r.hh HHW.out j hlt
      obtain ⟨v0, cv0, fv0, -, -⟩ := wn_word HV.out.v (vk7_w HHW.out j) j (by omega)
      go_upto_region 20 with fail
      obtain ⟨V1, hV1⟩ : ∃ V, V = wr.setCell ⟨bv, j, none⟩ (.int .u32 x) := ⟨_, rfl⟩
      rw [← hV1]
      replace HV : Hid (Rv w q2 bh bm bv h M ((vk7 h j).set j x) V1) := by rw [hV1]; exact HV.out.setV (by omega) (by omega) kv j (by omega) x
      clear hV1 cx fx cv0 fv0
      obtain ⟨v1, cv1, fv1, -, -⟩ := wn_word HV.out.v ((vk7_w HHW.out j).set j rx) (j + 8) (by omega)
      have cg := (HG.out.later HV.out.r.bel).ivAt j hlt
      obtain ⟨y, HY⟩ : ∃ y, Hid (y = iv7[j]!) := ⟨_, rfl⟩
      rw [← HY.out] at cg
      have c3 : 8 + (j : Int) < 16 := by omega
      have c4 : 0 ≤ 8 + (j : Int) := by omega
      have t5 : (8 + (j : Int)).toNat = j + 8 := by omega
      go_wp2
      go_roundw
      case rel => exact ⟨j + 1, by omega, by go_num, by
       have := HV.out.setV (by omega) (by omega) kv (j + 8) (by omega) y
       rw [vk7_step HHW.out j hlt HX.out HY.out] at this
       exact this⟩
      case measure => simp [intOf]; omega
     ·have e : j = 8 := by omega
      subst e
      rw [vk7_all HHW.out] at HV
      clear hlt hj
      obtain ⟨x12, c12, f12, r12, H12⟩ := wn_word HV.out.v (va7_w HHW.out) 12 (by decide)
      have hwt : IntKind.u32.wrap t2 = t2 % 4294967296 := by rw [IntKind.wrap_u32']
      go_upto_region 22 with fail
      obtain ⟨V1, hV1⟩ : ∃ V, V = wr.setCell ⟨bv, 12, none⟩ (.int .u32 (bits .xor .u32 x12 (t2 % 4294967296))) := ⟨_, rfl⟩
      rw [← hV1]
      replace HV : Hid (Rv w q2 bh bm bv h M (vb7 h t2) V1) := by
       unfold Hid
       rw [hV1, vb7, ← H12.out]
       exact HV.out.setV (by omega) (by omega) kv 12 (by decide) _
      clear hV1 c12 f12 r12 H12 hwt
      obtain ⟨x13, c13, f13, r13, H13⟩ := wn_word HV.out.v (vb7_w HHW.out t2) 13 (by decide)
      have hwt : IntKind.u32.wrap (t2 / 4294967296) = t2 / 4294967296 % 4294967296 := by rw [IntKind.wrap_u32']
      go_upto_if 85 with fail
      obtain ⟨V2, hV2⟩ : ∃ V, V = V1.setCell ⟨bv, 13, none⟩ (.int .u32 (bits .xor .u32 x13 (t2 / 4294967296 % 4294967296))) := ⟨_, rfl⟩
      rw [← hV2]
      replace HV : Hid (Rv w q2 bh bm bv h M (vc7 h t2) V2) := by
       unfold Hid
       rw [hV2, vc7, ← H13.out]
       exact HV.out.setV (by omega) (by omega) kv 13 (by decide) _
      clear hV2 c13 f13 r13 H13 hwt
      go_cut [] from 24 to 137 (fun wx => Hid (Rv w q2 bh bm bv h M (vs7 h t2 last) wx))
      case first =>
       clear HLA
       cases last
       case false =>
        go_wp2_with fail
        go_meet
        case rel => unfold Hid; rw [vs7_not]; exact HV.out
       case true =>
        obtain ⟨x14, c14, f14, r14, H14⟩ := wn_word HV.out.v (vc7_w HHW.out t2) 14 (by decide)
        obtain ⟨n0, n1⟩ := r14
        have hnt := not7 ⟨n0, n1⟩
        go_wp2_with fail
        go_meet
        case rel =>
         unfold Hid
         try rw [hnt]
         rw [vs7_last, vd7, ← H14.out]
         exact HV.out.setV (by omega) (by omega) kv 14 (by decide) _
      case rest =>
      clear HV
      have HV : Hid (Rv w q2 bh bm bv h M (vs7 h t2 last) wc) := hcut
      have HS0W : Hid (Wn 16 (vs7 h t2 last)) := vs7_w HHW.out _ _
      obtain ⟨V0, HV0⟩ : ∃ v, Hid (v = vs7 h t2 last) := ⟨_, rfl⟩
      rw [← HV0.out] at HV HS0W
      clear hcut
      clear HT htn ht20
      go_wp2
      go_loopw [12] (fun i wr => ∃ (n12 : Nat) (V : List Int), n12 ≤ 10 ∧ i = .int .i64 n12 ∧ Hid (V = rs7 M V0 n12) ∧ Hid (Wn 16 V) ∧ Hid (Rv w q2 bh bm bv h M V wr)) (fun i _ => 10 - (intOf i).toNat)
      case atStart => exact ⟨0, V0, by decide, rfl, rfl, HS0W, HV⟩
      case round =>
       clear HV
       obtain ⟨n12, V, hn12, rfl, HVr, HWV, HV⟩ := hrel
       by_cases hlt : n12 < 10
       ·have g1 : (n12 : Int) < 10 := by omega
        have hso := sg7_so n12 hlt
        obtain ⟨sr, HSR⟩ : ∃ s, Hid (s = sg7[n12]!) := ⟨_, rfl⟩
        rw [← HSR.out] at hso
        have HSO : Hid (So sr) := hso
        clear hso
        go_wp2
        go_loopw [13] (fun i wr => ∃ j : Nat, j ≤ 8 ∧ i = .int .i64 j ∧ Hid (Rv w q2 bh bm bv h M (gs7 M sr V j) wr)) (fun i _ => 8 - (intOf i).toNat)
        case atStart => exact ⟨0, by decide, rfl, HV⟩
        case round =>
         clear HV
         obtain ⟨j, hj, rfl, HV⟩ := hrel
         by_cases hlt2 : j < 8
         ·have g2 : (j : Int) < 8 := by omega
          obtain ⟨n0, H0⟩ : ∃ n, Hid (n = rq j 0) := ⟨_, rfl⟩
          obtain ⟨n1, H1⟩ : ∃ n, Hid (n = rq j 1) := ⟨_, rfl⟩
          obtain ⟨n2, H2⟩ : ∃ n, Hid (n = rq j 2) := ⟨_, rfl⟩
          obtain ⟨n3, H3⟩ : ∃ n, Hid (n = rq j 3) := ⟨_, rfl⟩
          have l0 : n0 < 16 := by rw [H0.out]; exact rq_lt j hlt2 0 (by decide)
          have l1 : n1 < 16 := by rw [H1.out]; exact rq_lt j hlt2 1 (by decide)
          have l2 : n2 < 16 := by rw [H2.out]; exact rq_lt j hlt2 2 (by decide)
          have l3 : n3 < 16 := by rw [H3.out]; exact rq_lt j hlt2 3 (by decide)
          have hGq : Gq wr := HG.out.later HV.out.r.bel
          obtain ⟨cs, hcs⟩ : ∃ cs : List Value, cs = [.int .i64 (n0 : Int), .int .i64 (n1 : Int), .int .i64 (n2 : Int), .int .i64 (n3 : Int)] := ⟨_, rfl⟩
          have hrow : wr.rangeAt 1 (j * 4) cs := by rw [hcs, H0.out, H1.out, H2.out, H3.out]; exact hGq.rowAt j hlt2
          have hi4 : (Tryz.prog.info? 70).map (·.size) = some cs.length := by rw [hcs]; kernel_rfl
          have HC4 : Hid (cs = [.int .i64 (n0 : Int), .int .i64 (n1 : Int), .int .i64 (n2 : Int), .int .i64 (n3 : Int)]) := hcs
          obtain ⟨s0, HS0⟩ : ∃ n, Hid (n = sr[2 * j]!) := ⟨_, rfl⟩
          obtain ⟨s1, HS1⟩ : ∃ n, Hid (n = sr[2 * j + 1]!) := ⟨_, rfl⟩
          have ls0 : s0 < 16 := by rw [HS0.out]; exact HSO.out.lt _
          have ls1 : s1 < 16 := by rw [HS1.out]; exact HSO.out.lt _
          have hc0 : wr.cell? ⟨2, n12 * 16 + 2 * j, none⟩ = some (.int .i64 (s0 : Int)) := by rw [HS0.out, HSR.out]; exact hGq.sgAt n12 (2 * j) hlt (by omega)
          have hc1 : wr.cell? ⟨2, n12 * 16 + (2 * j + 1), none⟩ = some (.int .i64 (s1 : Int)) := by rw [HS1.out, HSR.out]; exact hGq.sgAt n12 (2 * j + 1) hlt (by omega)
          obtain ⟨m0, hm0, -, rm0, HM0⟩ := wn_word HV.out.m HMW.out s0 ls0
          obtain ⟨m1, hm1, -, rm1, HM1⟩ := wn_word HV.out.m HMW.out s1 ls1
          have nrb : 1 ≠ bv := by omega
          have nsb : 2 ≠ bv := by omega
          have nmb : bm ≠ bv := by omega
          have xc0 : ∀ u, ExtB bv wr u → u.cell? ⟨2, n12 * 16 + 2 * j, none⟩ = some (.int .i64 (s0 : Int)) := fun u hu => hu.cell nsb hc0
          have xc1 : ∀ u, ExtB bv wr u → u.cell? ⟨2, n12 * 16 + (2 * j + 1), none⟩ = some (.int .i64 (s1 : Int)) := fun u hu => hu.cell nsb hc1
          have xm0 : ∀ u, ExtB bv wr u → u.cell? ⟨bm, s0, none⟩ = some (.int .u32 m0) := fun u hu => hu.cell nmb hm0
          have xm1 : ∀ u, ExtB bv wr u → u.cell? ⟨bm, s1, none⟩ = some (.int .u32 m1) := fun u hu => hu.cell nmb hm1
          have gs0 : (s0 : Int) < 16 := by omega
          have gs1 : (s1 : Int) < 16 := by omega
          have hw2 : IntKind.i64.wrap (2 * (j : Int)) = 2 * j := by rw [IntKind.wrap_i64]; omega
          have hw21 : IntKind.i64.wrap (2 * (j : Int) + 1) = 2 * j + 1 := by rw [IntKind.wrap_i64]; omega
          have t1 : (2 * (j : Int)).toNat = 2 * j := by omega
          have t2' : (2 * (j : Int) + 1).toNat = 2 * j + 1 := by omega
          have g3 : 2 * (j : Int) < 16 := by omega
          have g4 : 2 * (j : Int) + 1 < 16 := by omega
          have g5 : 0 ≤ 2 * (j : Int) := by omega
          have g6 : 0 ≤ 2 * (j : Int) + 1 := by omega
          clear hcs hc0 hc1 hm0 hm1 hGq
          go_upto_region 31 with fail
          refine wp_region_noPanic ?_
          refine wp_region_held_drew (S := ExtB bv wr) (by kernel_rfl) (ExtB.refl _ _).drew (fun hH => ?_)
          change wpAnyH _ _ _ _ _ _ #[false, false, false, false, false, false, false, false, false, false, false, false, false, false, false, false, false, false, false, false, false] _ _
          refine tk 0 ?_
          try simp only [Act.put, List.setIfInBounds_toArray, List.set_cons_zero, List.set_cons_succ]
          refine tk 1 ?_
          try simp only [Act.put, List.setIfInBounds_toArray, List.set_cons_zero, List.set_cons_succ]
          refine tkl 2 (.agg cs.toArray) ?_ (hy := by exact yieldsIf_load_mid (by rfl) 70 (.tmp 99) rfl 1 (j * 4) rfl cs _ (fun u hu => range_ext hu nrb hrow) Tryz.underlying70 rfl hi4)
          try simp only [Act.put, List.setIfInBounds_toArray, List.set_cons_zero, List.set_cons_succ]
          refine tk 3 ?_
          try simp only [Act.put, List.setIfInBounds_toArray, List.set_cons_zero, List.set_cons_succ]
          refine tk 4 ?_
          try simp only [Act.put, List.setIfInBounds_toArray, List.set_cons_zero, List.set_cons_succ]
          refine tk 5 ?_
          try simp only [Act.put, List.setIfInBounds_toArray, List.set_cons_zero, List.set_cons_succ]
          refine tk 6 ?_
          try simp only [Act.put, List.setIfInBounds_toArray, List.set_cons_zero, List.set_cons_succ]
          refine tk 7 ?_
          try simp only [Act.put, List.setIfInBounds_toArray, List.set_cons_zero, List.set_cons_succ]
          refine tk 8 ?_ (hy := by (intro u hu; (have hx := xc0 u hu; go_simp) <;> with_reducible rfl))
          try simp only [Act.put, List.setIfInBounds_toArray, List.set_cons_zero, List.set_cons_succ]
          refine tk 9 ?_
          try simp only [Act.put, List.setIfInBounds_toArray, List.set_cons_zero, List.set_cons_succ]
          refine tk 10 ?_ (hy := by (intro u hu; (have hx := xm0 u hu; go_simp) <;> with_reducible rfl))
          try simp only [Act.put, List.setIfInBounds_toArray, List.set_cons_zero, List.set_cons_succ]
          refine tk 11 ?_
          try simp only [Act.put, List.setIfInBounds_toArray, List.set_cons_zero, List.set_cons_succ]
          refine tk 12 ?_
          try simp only [Act.put, List.setIfInBounds_toArray, List.set_cons_zero, List.set_cons_succ]
          refine tk 13 ?_
          try simp only [Act.put, List.setIfInBounds_toArray, List.set_cons_zero, List.set_cons_succ]
          refine tk 14 ?_
          try simp only [Act.put, List.setIfInBounds_toArray, List.set_cons_zero, List.set_cons_succ]
          refine tk 15 ?_
          try simp only [Act.put, List.setIfInBounds_toArray, List.set_cons_zero, List.set_cons_succ]
          refine tk 16 ?_
          try simp only [Act.put, List.setIfInBounds_toArray, List.set_cons_zero, List.set_cons_succ]
          refine tk 17 ?_ (hy := by (intro u hu; (have hx := xc1 u hu; go_simp) <;> with_reducible rfl))
          try simp only [Act.put, List.setIfInBounds_toArray, List.set_cons_zero, List.set_cons_succ]
          refine tk 18 ?_
          try simp only [Act.put, List.setIfInBounds_toArray, List.set_cons_zero, List.set_cons_succ]
          refine tk 19 ?_ (hy := by (intro u hu; (have hx := xm1 u hu; go_simp) <;> with_reducible rfl))
          try simp only [Act.put, List.setIfInBounds_toArray, List.set_cons_zero, List.set_cons_succ]
          clear xc0 xc1 xm0 xm1 hrow hi4
          rw [HC4.out]
          refine rdy 20 (fun K hK => ?_)
          go_simp
          refine (rmix_c bv (gs7 M sr V j) n0 n1 n2 n3 m0 m1 _ HV.out.v.drew (gs7_w _ _ HWV.out j) l0 l1 l2 l3 rm0 rm1).mono ?_
          rintro e V2 ⟨rfl, HA, hb⟩
          refine hK.out _ _ (hH.comp hb) (fun hH' => ?_)
          clear hK K hH; have hH := hH'; clear hH'; try simp only [List.setIfInBounds_toArray, List.set]
          replace HV : Hid (Rv w q2 bh bm bv h M (gs7 M sr V (j + 1)) V2) := by
           have hA := HA.out
           rw [H0.out, H1.out, H2.out, H3.out, HM0.out, HM1.out, HS0.out, HS1.out] at hA
           have := (HV.out.later (Below.refl _ _).drew).mixed hb (V' := gs7 M sr V (j + 1)) (by simp only [gs7, st7, rq_rw j hlt2]; exact hA) (by omega) (by omega) nmb kv
           exact this
          clear hb HA
          refine wpAnyH_done (by kernel_rfl) ?_ _
          refine NoPanic.normal ?_
          go_wp2
          go_roundw
          case rel => (repeat apply Exists.intro); exact ⟨⟨j + 1, by omega, by go_num, HV⟩, rfl⟩
          case measure => simp [intOf]; omega
         ·have e : j = 8 := by omega
          subst e
          clear hlt2 hj
          go_wp2
          go_roundw
          case rel => exact ⟨n12 + 1, gs7 M sr V 8, by omega, by go_num, by unfold Hid; rw [rs7, ← HVr.out, ← HSR.out], gs7_w _ _ HWV.out 8, HV⟩
          case measure => simp [intOf]; omega
       ·have e : n12 = 10 := by omega
        subst e
        clear hlt hn12
        obtain ⟨N, HN⟩ : ∃ l, Hid (l = px7 h V) := ⟨_, rfl⟩
        have HNW : Hid (Wn 8 N) := by unfold Hid; rw [HN.out]; exact px7_w HHW.out HWV.out
        have hNl := HNW.out.len
        have hsl := HHW.out.len
        replace HV : Hid (Rv w q2 bh bm bv (mk7 N h 0) M V wr) := by unfold Hid; rw [mk7_zero]; exact HV.out
        go_wp2
        go_loopw [14] (fun i wr => ∃ j : Nat, j ≤ 8 ∧ i = .int .i64 j ∧ Hid (Rv w q2 bh bm bv (mk7 N h j) M V wr)) (fun i _ => 8 - (intOf i).toNat)
        case atStart => exact ⟨0, by decide, rfl, HV⟩
        case round =>
         clear HV
         obtain ⟨j, hj, rfl, HV⟩ := hrel
         by_cases hlt : j < 8
         ·have c1 : (j : Int) < 8 := by omega
          obtain ⟨x, cx, fx, rx, HXx⟩ := wn_word HV.out.r.hh (mk7_w HNW.out HHW.out j) j hlt
          rw [mk7_get_old (Nat.le_refl j) (by omega) (by omega)] at HXx
          obtain ⟨y, cy, -, ry, HY⟩ := wn_word HV.out.v HWV.out j (by omega)
          obtain ⟨z, cz, -, rz, HZ⟩ := wn_word HV.out.v HWV.out (j + 8) (by omega)
          have hw8 : IntKind.i64.wrap (8 + (j : Int)) = 8 + (j : Int) := by rw [IntKind.wrap_i64]; omega
          have hn8 : (8 + (j : Int)).toNat = j + 8 := by omega
          have c2 : (j : Int) < 16 := by omega
          have c3 : 8 + (j : Int) < 16 := by omega
          have c4 : 0 ≤ 8 + (j : Int) := by omega
          have xx : ∀ u, Ext wr u → u.cell? ⟨bh, j, none⟩ = some (.int .u32 x) := fun u hu => hu.cell cx
          have xy : ∀ u, Ext wr u → u.cell? ⟨bv, j, none⟩ = some (.int .u32 y) := fun u hu => hu.cell cy
          have xz : ∀ u, Ext wr u → u.cell? ⟨bv, j + 8, none⟩ = some (.int .u32 z) := fun u hu => hu.cell cz
          go_upto_region 35 with fail
          refine wp_region_noPanic ?_
          refine wp_region_two (k := 14) (Ext wr) (ExtB bh wr) (by kernel_rfl) (Ext.refl _).drew (fun hH => ?_)
          change wpAnyK _ _ _ _ _ _ _ _ #[false, false, false, false, false, false, false, false, false, false, false, false, false, false, false] _ _
          refine tka 0 ?_
          try simp only [Act.put, List.setIfInBounds_toArray, List.set_cons_zero, List.set_cons_succ]
          refine tka 1 ?_
          try simp only [Act.put, List.setIfInBounds_toArray, List.set_cons_zero, List.set_cons_succ]
          refine tka 2 ?_
          try simp only [Act.put, List.setIfInBounds_toArray, List.set_cons_zero, List.set_cons_succ]
          refine tka 3 ?_ (hy := by (intro u hu; (have hx := xx u hu; go_simp) <;> with_reducible rfl))
          try simp only [Act.put, List.setIfInBounds_toArray, List.set_cons_zero, List.set_cons_succ]
          refine tka 4 ?_
          try simp only [Act.put, List.setIfInBounds_toArray, List.set_cons_zero, List.set_cons_succ]
          refine tka 5 ?_
          try simp only [Act.put, List.setIfInBounds_toArray, List.set_cons_zero, List.set_cons_succ]
          refine tka 6 ?_ (hy := by (intro u hu; (have hx := xy u hu; go_simp) <;> with_reducible rfl))
          try simp only [Act.put, List.setIfInBounds_toArray, List.set_cons_zero, List.set_cons_succ]
          refine tka 7 ?_
          try simp only [Act.put, List.setIfInBounds_toArray, List.set_cons_zero, List.set_cons_succ]
          refine tka 8 ?_
          try simp only [Act.put, List.setIfInBounds_toArray, List.set_cons_zero, List.set_cons_succ]
          refine tka 9 ?_
          try simp only [Act.put, List.setIfInBounds_toArray, List.set_cons_zero, List.set_cons_succ]
          refine tka 10 ?_
          try simp only [Act.put, List.setIfInBounds_toArray, List.set_cons_zero, List.set_cons_succ]
          refine tka 11 ?_ (hy := by (intro u hu; (have hx := xz u hu; go_simp) <;> with_reducible rfl))
          try simp only [Act.put, List.setIfInBounds_toArray, List.set_cons_zero, List.set_cons_succ]
          refine tka 12 ?_
          try simp only [Act.put, List.setIfInBounds_toArray, List.set_cons_zero, List.set_cons_succ]
          refine tka 13 ?_
          try simp only [Act.put, List.setIfInBounds_toArray, List.set_cons_zero, List.set_cons_succ]
          clear xx xy xz
          refine wpAnyK_last (k := 14) (o := ?o14m35) ?h14m35 (by kernel_rfl) (fun K hK => ?_)
          case h14m35 => simp only [List.getElem?_toArray]; rfl
          go_simp
          refine hK.out _ _ ((hH.extB _).set j _) (fun hH' => ?_)
          clear hK K hH; have hH := hH'; clear hH'; try simp only [List.setIfInBounds_toArray, List.set]
          refine wpAnyH_done (by kernel_rfl) ?_ _
          refine NoPanic.normal ?_
          have HV' : Hid (Rv w q2 bh bm bv (mk7 N h (j + 1)) M V (wr.setCell ⟨bh, j, none⟩ (.int .u32 (xr7 (xr7 x y) z))).drew) := by
           have := (HV.out.setH (by omega) (by omega) kw j hlt (xr7 (xr7 x y) z)).later (Below.refl _ _).drew
           rw [mk7_set (by omega) (by omega) (by rw [HN.out, px7_at HHW.out HWV.out j hlt, xr7_assoc rx ry rz, HXx.out, HY.out, HZ.out])] at this
           exact this
          clear HV cx fx cy cz hn8 hw8
          go_wp2
          go_roundw
          case rel => (repeat apply Exists.intro); exact ⟨⟨j + 1, by omega, by go_num, HV'⟩, rfl⟩
          case measure => simp [intOf]; omega
         ·have e : j = 8 := by omega
          subst e
          rw [mk7_all (by omega) 8 hNl.symm] at HV
          clear hlt hj
          have HNp : Hid (N = pr7 h B t2 last) := by unfold Hid; rw [pr7_eq, HN.out, HVr.out, HV0.out, HMM.out]
          clear HN HVr HV0 HMM HS0W HWV HMW
          go_upto_if 137 with fail
          cases last
          case false =>
           have hgt : ¬ (r : Int) ≤ 64 := of_decide_eq_false HLA.out.symm
           have hn := hn2 (by omega)
           subst hn
           have HN2 : Hid (N = hb7 X (k + 1)) := by
            unfold Hid
            rw [HNp.out, hb7, ← HH.out, HB.out, pad7_full hCl, HC.out, HT2.out]
            rfl
           go_wp2
           go_roundw
           case rel => exact ⟨k + 1, r - 64, t2, a2, c2, rfl, rfl, HT2, by omega, .inr (by omega), HR2, by unfold Hid; rw [← HN2.out]; exact HV.out.r⟩
           case measure => simp [slen]; omega
          case true =>
           have hle : (r : Int) ≤ 64 := of_decide_eq_true HLA.out.symm
           have hn := hn1 (by omega)
           subst hn
           obtain ⟨S, HS⟩ : ∃ s, Hid (s = ou7 N 8) := ⟨_, rfl⟩
           have HSX : Hid (S = sum7 X) := by
            unfold Hid
            have ek : kb7 X.length = k := by unfold kb7; rw [HXL.out]; omega
            have eC : C = X.drop (64 * k) := by rw [HC.out, List.take_of_length_le (by rw [List.length_drop, HXL.out]; omega)]
            have et : t2 = (X.length : Int) := by rw [HT2.out, HXL.out]; omega
            rw [sum7_eq, ek, fin7, HS.out, HNp.out, HB.out, eC, et, HH.out]
           have HSn : Hid (Bn 32 S) := by unfold Hid; rw [HSX.out]; exact sum7_bn X
           have hSl := HSn.out.len
           have HRs : Hid (Rs w q2 bh N wr) := HV.out.r
           clear HV HNp HB HC HT2 HH HHW HBB HCB HR2
           go_upto_region 38 with fail
           have hO : Ar (wr.alloc (.cells zb32 33)) wr.heap.size 32 (List.map (Value.int .u8) (mk7 S z32l (4 * 0))) := by rw [show 4 * 0 = 0 from rfl, mk7_zero]; exact ar_box wr (List.map (Value.int .u8) z32l) 32 rfl 33
           have HP : Hid (Ro w q2 bh wr.heap.size N (mk7 S z32l (4 * 0)) (wr.alloc (.cells zb32 33))) := ⟨HRs.out.later (bel1 _ _), hO⟩
           have khW : bh < wr.heap.size := HRs.out.hh.lt (by decide)
           have kq : q2 < wr.heap.size := by omega
           obtain ⟨W7, hW7⟩ : ∃ W, W = wr.alloc (.cells zb32 33) := ⟨_, rfl⟩
           obtain ⟨bo, hbo⟩ : ∃ q, q = wr.heap.size := ⟨_, rfl⟩
           rw [← hW7] at HP ⊢
           rw [← hbo] at HP khW kq ⊢
           have ko : w.heap.size ≤ bo := by omega
           clear hO hW7 hbo HRs
           go_wp2
           go_loopw [16] (fun i wr => ∃ j : Nat, j ≤ 8 ∧ i = .int .i64 j ∧ Hid (Ro w q2 bh bo N (mk7 S z32l (4 * j)) wr)) (fun i _ => 8 - (intOf i).toNat)
           case atStart => exact ⟨0, by decide, rfl, HP⟩
           case round =>
            clear HP
            obtain ⟨j, hj, rfl, HP⟩ := hrel
            by_cases hlt : j < 8
            ·have c1 : (j : Int) < 8 := by omega
             obtain ⟨z, cz, fz, rz, HZ⟩ := wn_word HP.out.r.hh HNW.out j hlt
             go_wp2_with fail
             refine (rput32_g z _ rz).mono ?_
             rintro e V ⟨g, rfl, HO, hgg, hb⟩
             have kg : bo < wr.heap.size := HP.out.o.lt (by decide)
             have HP2 : Hid (Ro w q2 bh bo N (mk7 S z32l (4 * j + 0)) V) := HP.out.later hb
             have hgo : g ≠ bo := by omega
             clear hb cz fz HP
             go_wp2
             go_loopw [18] (fun i wr => ∃ c : Nat, c ≤ 4 ∧ i = .int .i64 c ∧ Hid (Ro w q2 bh bo N (mk7 S z32l (4 * j + c)) wr) ∧ Hid (Ow wr g 4 (lay 4 z))) (fun i _ => 4 - (intOf i).toNat)
             case atStart => exact ⟨0, by decide, rfl, HP2, HO⟩
             case round =>
              clear HP2 HO
              obtain ⟨c, hc, rfl, HP, HO⟩ := hrel
              by_cases hlt2 : c < 4
              ·have d1 : (c : Int) < 4 := by omega
               obtain ⟨y, cy, fy, ey, -⟩ := HO.out.cell c hlt2
               have fo := (HP.out.o.cell (4 * j + c) (by omega)).2
               have hw4 : IntKind.i64.wrap (4 * (j : Int)) = 4 * j := by rw [IntKind.wrap_i64]; omega
               have hw5 : IntKind.i64.wrap (4 * (j : Int) + c) = 4 * j + c := by rw [IntKind.wrap_i64]; omega
               have t1 : (4 * (j : Int) + (c : Int)).toNat = 4 * j + c := by omega
               have d2 : 4 * (j : Int) + (c : Int) < 32 := by omega
               have d3 : 0 ≤ 4 * (j : Int) + (c : Int) := by omega
               have HY : Hid (y = S[4 * j + c]!) := by
                unfold Hid
                rw [HS.out, ou7_at N 8 j c hlt hlt2, ← HZ.out, getElem!_def, ey]
               obtain ⟨o1, ho1⟩ : ∃ v, wr.cell? ⟨bo, 4 * j + c, none⟩ = some v := ⟨_, (HP.out.o.cell (4 * j + c) (by omega)).1⟩
               go_wp2_with fail
               go_roundw
               case rel => exact ⟨c + 1, by omega, by go_num, by
                have := HP.out.set (by omega) ko (4 * j + c) (by omega) y
                rw [mk7_set (by rw [hSl]; omega) (by show 4 * j + c < 32; omega) HY.out] at this
                exact this, HO.out.else _ _ hgo _⟩
               case measure => simp [intOf]; omega
              ·have e : c = 4 := by omega
               subst e
               go_wp2
               go_roundw
               case rel => exact ⟨j + 1, by omega, by go_num, HP⟩
               case measure => simp [intOf]; omega
            ·have e : j = 8 := by omega
             subst e
             rw [mk7_all (by rw [hSl]; decide) (4 * 8) (by rw [hSl])] at HP
             obtain ⟨hlen, hone, hi32⟩ := bn32_cells HSn.out
             obtain ⟨cs, hcs⟩ : ∃ cs, cs = (List.map (Value.int .u8) S) := ⟨_, rfl⟩
             have HCc : Hid (cs = (List.map (Value.int .u8) S)) := hcs
             rw [← hcs] at hlen hone hi32
             clear hcs
             have hrg : wr.rangeAt bo 0 cs := by rw [HCc.out]; exact HP.out.o.rng
             have hth := HP.out.r.res
             go_wp2_with (first
              | (refine wpList_load_mid rfl 33 (.tmp 15) rfl bo 0 rfl cs _ hrg Tryz.underlying33 rfl hi32 ?_)
              | (refine wpList_store_mid rfl 33 (.tmp 2) (.tmp 159) rfl q2 0 cs.toArray rfl rfl (by simpa [hlen] using hth) (by simpa using hi32) (all_oneCell_toArray hone) ?_))
             have HR3 : Hid ((wr.setCells q2 0 cs).rangeAt q2 0 cs) := World.rangeAt_setCells_same _ _ _ _ (by rw [hlen]; exact hth)
             have hld := run_loadVar_mid (P := Tryz.prog) _ _ 0 33 _ _ HR3.out Tryz.underlying33 rfl hi32
             exact bodyPost_ret (v := .agg cs.toArray) (by simp [results, Tryz.results24]; exact hld) rfl ⟨S, by rw [HCc.out], HSX, below_setCells _ (by have := HQ.out; omega) _ _ _ HP.out.r.bel⟩
end Go.Proofs.YtmibjgkakolhiaaGreatDoor
