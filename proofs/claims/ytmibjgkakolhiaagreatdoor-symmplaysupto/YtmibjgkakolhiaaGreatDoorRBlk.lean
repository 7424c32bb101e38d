/-
 What the reference's Block does: the same sixty-four bytes. No statement of the seat is proved here.
-/
import Derived.Test.YtmibjgkakolhiaaGreatDoorPk1
import Derived.Test.YtmibjgkakolhiaaGreatDoorPk19
import Derived.Test.YtmibjgkakolhiaaGreatDoorPk42
namespace Go.Proofs.YtmibjgkakolhiaaGreatDoor
open Go.RowKit

/-- The reference's variable 'rows', as one list. -/
def rowL : List Int := [0, 4, 8, 12, 1, 5, 9, 13, 2, 6, 10, 14, 3, 7, 11, 15, 0, 5, 10, 15, 1, 6, 11, 12, 2, 7, 8, 13, 3, 4, 9, 14]
def Gr (w : World) : Prop := w.rangeAt 1 0 (List.map (Value.int .i64) rowL)
set_option maxRecDepth 8000 in
theorem Gr.later {u u' : World} (h : Gr u) (hb : Below u.heap.size u u') : Gr u' := range_later hb h
set_option maxRecDepth 8000 in
theorem Gr.pos {u : World} (h : Gr u) : 1 < u.heap.size := World.block_lt_of_cell? u _ (h 0 (.int .i64 0) rfl)
set_option maxRecDepth 8000 in
theorem Gr.set {u : World} (h : Gr u) (b i : Nat) (hb : 1 < b) (v : Value) : Gr (u.setCell ⟨b, i, none⟩ v) := range_else h (by omega) v
set_option maxRecDepth 8000 in
theorem Gr.extb {u u' : World} {b : Nat} (h : Gr u) (hb : ExtB b u u') (h0 : 1 < b) : Gr u' := fun j v hv => hb.cell (by omega) (h j v hv)
/-- The row's four numbers. -/
def rr (k i : Nat) : Nat := (rowL[4 * k + i]?.getD 0).toNat
set_option maxRecDepth 8000 in
theorem rr_lt : ∀ k < 8, ∀ i < 4, rr k i < 16 := by decide
set_option maxRecDepth 8000 in
theorem rr_row : ∀ k < 8, (rowL.drop (4 * k)).take 4 = [((rr k 0 : Nat) : Int), ((rr k 1 : Nat) : Int), ((rr k 2 : Nat) : Int), ((rr k 3 : Nat) : Int)] := by decide
/-- So many quarters. -/
def ql (L : List Int) : Nat → List Int
 | 0 => L
 | k + 1 => qs (rr k 0) (rr k 1) (rr k 2) (rr k 3) (ql L k)
set_option maxRecDepth 8000 in
theorem ql_eight (L : List Int) : ql L 8 = cr (dn L) := rfl
set_option maxRecDepth 8000 in
theorem ql_w {L : List Int} (h : W16 L) : ∀ k, W16 (ql L k)
 | 0 => h
 | k + 1 => qs_w (ql_w h k) _ _ _ _
set_option maxRecDepth 8000 in
theorem got_cut (l : List Int) (h : 4 ≤ l.length) : got 4 (l.take 4) = got 4 l := by
 unfold got
 rw [if_pos h, if_pos (by rw [List.length_take]; omega), List.take_take]
 rfl
set_option maxRecDepth 8000 in
theorem bel4 (w : World) (o1 o2 o3 o4 : Obj) : Below w.heap.size w ((((w.alloc o1).alloc o2).alloc o3).alloc o4) := (bel3 w o1 o2 o3).alloc (by simp <;> omega) o4
set_option maxRecDepth 8000 in
/-- A step that several ways come to. -/
theorem cutg {α β : Prop} (h : α → β) (ha : α) : β := h ha
def z16 : List Int := [0, 0, 0, 0, 0, 0, 0, 0, 0, 0, 0, 0, 0, 0, 0, 0]
set_option maxRecDepth 8000 in
theorem z16_arr : (List.map (Value.int .u32) z16).toArray = zw16 := rfl
set_option maxRecDepth 8000 in
theorem iv0_eq : (((z16.set 0 1634760805).set 1 857760878).set 2 2036477234).set 3 1797285236 = iv0 := rfl
set_option maxRecDepth 8000 in
theorem r16_cells {L : List Int} (h : W16 L) : (List.map (Value.int .u32) L).length = 16 ∧ (∀ v ∈ (List.map (Value.int .u32) L), v.oneCell' = true) ∧ (Tryz.prog.info? 65).map (·.size) = some (List.map (Value.int .u32) L).length := by
 have e : (List.map (Value.int .u32) L).length = 16 := by rw [List.length_map, h.len]
 exact ⟨e, ints_oneCell _ _, by rw [e]; kernel_rfl⟩
structure Mr (w : World) (q1 q2 b7 : Nat) (key nonce S : List Int) (u : World) : Prop where
 ak : Ar u w.heap.size 32 (List.map (Value.int .u8) key)
 an : Ar u q1 12 (List.map (Value.int .u8) nonce)
 ar : Ar u b7 16 (List.map (Value.int .u32) S)
 res : u.there q2 0 64
 gr : Gr u
 bel : Below w.heap.size w u
 gw : 1 < w.heap.size
set_option maxRecDepth 8000 in
theorem Mr.later {w : World} {q1 q2 b7 : Nat} {key nonce S : List Int} {u v : World} (h : Mr w q1 q2 b7 key nonce S u) (hb : Below u.heap.size u v) : Mr w q1 q2 b7 key nonce S v :=
 ⟨h.ak.later hb, h.an.later hb, h.ar.later hb, there_later hb h.res, h.gr.later hb, h.bel.trans (hb.mono h.bel.size), h.gw⟩
set_option maxRecDepth 8000 in
theorem Mr.set {w : World} {q1 q2 b7 : Nat} {key nonce S : List Int} {u : World} (h : Mr w q1 q2 b7 key nonce S u) (h0 : w.heap.size < b7) (h1 : q1 < b7) (i : Nat) (hi : i < 16) (x : Int) : Mr w q1 q2 b7 key nonce (S.set i x) (u.setCell ⟨b7, i, none⟩ (.int .u32 x)) :=
 ⟨h.ak.else _ _ (by omega) _, h.an.else _ _ (by omega) _, by rw [List.map_set]; exact h.ar.set i hi _, there_set h.res _ _ _, h.gr.set _ _ (by have := h.gw; omega) _, h.bel.setCell (p := ⟨b7, i, none⟩) (by dsimp only; omega) _, h.gw⟩

structure Mo2 (w : World) (q1 q2 b7 b10 b14 : Nat) (key nonce S L O : List Int) (u : World) : Prop where
 mr : Mr w q1 q2 b7 key nonce S u
 mix : Ar u b10 16 (List.map (Value.int .u32) L)
 rng : u.rangeAt b14 0 (List.map (Value.int .u8) O)
 out : u.there b14 0 64
set_option maxRecDepth 8000 in
theorem Mo2.later {w : World} {q1 q2 b7 b10 b14 : Nat} {key nonce S L O : List Int} {u v : World} (h : Mo2 w q1 q2 b7 b10 b14 key nonce S L O u) (hb : Below u.heap.size u v) : Mo2 w q1 q2 b7 b10 b14 key nonce S L O v :=
 ⟨h.mr.later hb, h.mix.later hb, range_later hb h.rng, there_later hb h.out⟩
set_option maxRecDepth 8000 in
theorem Mr.apart {w : World} {q1 q2 b7 : Nat} {key nonce S : List Int} {u : World} (h : Mr w q1 q2 b7 key nonce S u) {b : Nat} (h0 : w.heap.size < b) (h1 : q1 < b) (h2 : b7 < b) (i : Nat) (v : Value) : Mr w q1 q2 b7 key nonce S (u.setCell ⟨b, i, none⟩ v) :=
 ⟨h.ak.else _ _ (by omega) _, h.an.else _ _ (by omega) _, h.ar.else _ _ (by omega) _, there_set h.res _ _ _, h.gr.set _ _ (by have := h.gw; omega) _, h.bel.setCell (p := ⟨b, i, none⟩) (by dsimp only; omega) _, h.gw⟩

set_option maxRecDepth 8000 in
theorem Rd.elseCell {u : World} {g n c : Nat} {l : List Int} (h : Rd u (some ⟨g, 0, none⟩) n c l) {b : Nat} (hb : b < g) (i : Nat) (v : Value) : Rd (u.setCell ⟨b, i, none⟩ v) (some ⟨g, 0, none⟩) n c l :=
 ⟨h.hlen, h.hle, h.hnil, h.byt, fun h0 => by
  obtain ⟨b', o', ha, hc⟩ := h.cell h0
  cases ha
  exact ⟨g, 0, rfl, fun j hj => by rw [World.cell?_setCell_other _ _ _ _ (by simp <;> omega)]; exact hc j hj⟩⟩
set_option maxRecDepth 8000 in
theorem Mo2.more {w : World} {q1 q2 b7 b10 b14 : Nat} {key nonce S L O : List Int} {u : World} (h : Mo2 w q1 q2 b7 b10 b14 key nonce S L O u) (h0 : w.heap.size < b14) (h1 : q1 < b14) (h2 : b7 < b14) (h3 : b10 < b14) (i : Nat) (hi : i < 64) (hl : O.length = i) (x : Int) : Mo2 w q1 q2 b7 b10 b14 key nonce S L (O ++ [x]) (u.setCell ⟨b14, i, none⟩ (.int .u8 x)) :=
 ⟨h.mr.apart h0 h1 h2 _ _, h.mix.else _ _ (by omega) _, by rw [List.map_append]; exact range_snoc h.rng (k := i) (by rw [List.length_map, hl]) h.out hi (.int .u8 x), there_set h.out _ _ _⟩
set_option maxRecDepth 8000 in
theorem refput32_g (n : Int) (w : World) (h : W32 n) :
  Calls Tryz.prog 38 #[.int .u32 n] w fun e w' => ∃ g, e = .returned (.slice (some ⟨g, 0, none⟩) 4 4) ∧ Rd w' (some ⟨g, 0, none⟩) 4 4 (lay 4 n) ∧ w.heap.size ≤ g ∧ Below w.heap.size w w' := by
 refine (refput32_any n w h.1 h.2).mono ?_
 rintro e w' ⟨rfl, ho, hb⟩
 exact ⟨_, rfl, Rd.owns (lay_byt 4 n) ho, Nat.le_refl _, hb⟩

set_option maxRecDepth 8000 in
set_option maxHeartbeats 8000000 in
theorem rblock_c (key : List Int) (count : Int) (nonce : List Int) (hk : Bn 32 key) (hc : W32 count) (hn : Bn 12 nonce) (w : World) (hg : Gr w) :
  Calls Tryz.prog 69 #[(.agg (List.map (Value.int .u8) key).toArray), .int .u32 count, (.agg (List.map (Value.int .u8) nonce).toArray)] w fun e w' => ∃ B, e = .returned (.agg (List.map (Value.int .u8) B).toArray) ∧ Hid (B = blk key count nonce) ∧ Bn 64 B ∧ Below w.heap.size w w' := by
 have HK : Hid (Bn 32 key) := hk
 have HN : Hid (Bn 12 nonce) := hn
 have HWC : Hid (W32 count) := hc
 have hw0 := hg.pos
 clear hk hn hc
 go_enter Tryz.func69, Tryz.ntmps69
 go_upto_region 1 with fail
 obtain ⟨W00, hW00⟩ : ∃ W, W = ((w.alloc (.cells (List.map (Value.int .u8) key).toArray 33)).alloc (.cells (List.map (Value.int .u8) nonce).toArray 81)).alloc (.cells zb64 90) := ⟨_, rfl⟩
 rw [← hW00]
 obtain ⟨q1, hq1⟩ : ∃ q, q = w.heap.size + 1 := ⟨_, rfl⟩
 obtain ⟨q2, hq2⟩ : ∃ q, q = w.heap.size + 1 + 1 := ⟨_, rfl⟩
 rw [← hq2, ← hq1]
 have AK : Hid (Ar W00 w.heap.size 32 (List.map (Value.int .u8) key)) := by unfold Hid; rw [hW00]; exact (ar_box w _ 32 HK.out.map_len _).later (bel2 _ _ _)
 have AN : Hid (Ar W00 q1 12 (List.map (Value.int .u8) nonce)) := by unfold Hid; rw [hW00, hq1]; have := (ar_box (w.alloc (.cells (List.map (Value.int .u8) key).toArray 33)) _ 12 HN.out.map_len 81).later (bel1 _ (.cells zb64 90)); simpa using this
 have HD : Hid (W00.there q2 0 64) := by unfold Hid; rw [hW00, hq2]; have := there_new ((w.alloc (.cells (List.map (Value.int .u8) key).toArray 33)).alloc (.cells (List.map (Value.int .u8) nonce).toArray 81)) 64 zb64 rfl 90; simpa using this
 have HB : Hid (Below w.heap.size w W00) := by unfold Hid; rw [hW00]; exact bel3 _ _ _ _
 have HSZ : Hid (W00.heap.size = w.heap.size + 1 + 1 + 1) := by unfold Hid; rw [hW00]; simp
 have HG : Hid (Gr W00) := hg.later HB.out
 have k1 : w.heap.size < q1 := by omega
 have k2 : q1 < q2 := by omega
 clear hW00 hg
 go_upto_region 2 with fail
 obtain ⟨W0, hW0⟩ : ∃ W, W = W00.alloc (.cells zw16 65) := ⟨_, rfl⟩
 obtain ⟨b7, hb7⟩ : ∃ b, b = W00.heap.size := ⟨_, rfl⟩
 rw [← hW0, ← hb7]
 have A7 : Hid (Ar W0 b7 16 (List.map (Value.int .u32) z16)) := by unfold Hid; rw [hW0, hb7]; have := ar_box W00 (List.map (Value.int .u32) z16) 16 rfl 65; rw [z16_arr] at this; exact this
 have hbl : Below W00.heap.size W00 W0 := by rw [hW0]; exact bel1 _ _
 replace AK := hidp (AK.out.later hbl)
 replace AN := hidp (AN.out.later hbl)
 replace HD : Hid (W0.there q2 0 64) := there_later hbl HD.out
 replace HB := hidp (HB.out.trans (hbl.mono HB.out.size))
 replace HG := hidp (HG.out.later hbl)
 have k3 : q2 < b7 := by have := HSZ.out; omega
 clear hbl hb7 HSZ hW0 hq1 hq2
 have HM : Hid (Mr w q1 q2 b7 key nonce z16 W0) := ⟨AK.out, AN.out, A7.out, HD.out, HG.out, HB.out, hw0⟩
 clear AK AN A7 HD HG HB
 have hz : W16 z16 := ⟨rfl, w32_dec _ (by decide)⟩
 obtain ⟨x0, d0, f0, -, -⟩ := ar_word HM.out.ar hz 0 (by decide)
 obtain ⟨x1, d1, f1, -, -⟩ := ar_word HM.out.ar hz 1 (by decide)
 obtain ⟨x2, d2, f2, -, -⟩ := ar_word HM.out.ar hz 2 (by decide)
 obtain ⟨x3, d3, f3, -, -⟩ := ar_word HM.out.ar hz 3 (by decide)
 clear hz
 go_upto_region 6 with fail
 clear d0 d1 d2 d3 f0 f1 f2 f3
 obtain ⟨W1, hW1⟩ : ∃ W, W = (((W0.setCell ⟨b7, 0, none⟩ (.int .u32 1634760805)).setCell ⟨b7, 1, none⟩ (.int .u32 857760878)).setCell ⟨b7, 2, none⟩ (.int .u32 2036477234)).setCell ⟨b7, 3, none⟩ (.int .u32 1797285236) := ⟨_, rfl⟩
 rw [← hW1]
 replace HM : Hid (Mr w q1 q2 b7 key nonce iv0 W1) := by
  have := (((HM.out.set (by omega) (by omega) 0 (by decide) 1634760805).set (by omega) (by omega) 1 (by decide) 857760878).set (by omega) (by omega) 2 (by decide) 2036477234).set (by omega) (by omega) 3 (by decide) 1797285236
  rw [iv0_eq, ← hW1] at this
  exact this
 clear hW1
 go_wp2
 go_loopw [8] (fun i wr => ∃ k : Nat, k ≤ 8 ∧ i = .int .i64 k ∧ Hid (Mr w q1 q2 b7 key nonce (fw iv0 4 key k) wr)) (fun i _ => 8 - (intOf i).toNat)
 case atStart => exact ⟨0, by decide, rfl, HM⟩
 case round =>
  clear HM
  obtain ⟨k, hk, rfl, HM⟩ := hrel
  by_cases hlt : k < 8
  ·have g1 : (k : Int) < 8 := by omega
   have g2 : 4 * (k : Int) + 4 ≤ 32 := by omega
   have g3 : 4 * (k : Int) ≤ 4 * (k : Int) + 4 := by omega
   have g4 : 0 ≤ 4 * (k : Int) := by omega
   have hR : Rd wr (some ⟨w.heap.size, 4 * k, none⟩) 4 (32 - 4 * k) ((key.drop (4 * k)).take 4) := HM.out.ak.rd HK.out.byt (4 * k) 4 (32 - 4 * k) (by omega) (by omega)
   have HR : Hid _ := hR
   clear hR
   obtain ⟨x, cx, fx, -, -⟩ := ar_word HM.out.ar (fw_w iv0_w 4 HK.out.byt k) (4 + k) (by omega)
   have t1 : (4 * (k : Int)).toNat = 4 * k := by omega
   have t2 : (4 * (k : Int) + 4).toNat = 4 * k + 4 := by omega
   have t3 : 4 * k + 4 - 4 * k = 4 := by omega
   have t4 : ¬ 32 = 4 * k := by omega
   have t5 : (4 + (k : Int)).toNat = 4 + k := by omega
   go_wp2_with fail
   refine (refget32_any _ _ _ _ _ HR.out (by decide)).mono ?_
   rintro e V ⟨rfl, nq, hV⟩
   rw [got_cut _ (by rw [List.length_drop, HK.out.len]; omega), show got 4 (key.drop (4 * k)) = wat key k from rfl]
   have hwd : W32 (wat key k) := wat_w HK.out.byt k
   obtain ⟨y, HY⟩ : ∃ y, Hid (y = wat key k) := ⟨_, rfl⟩
   rw [← HY.out] at hwd ⊢
   have hb : Below wr.heap.size wr V := by rw [hV]; exact below_drewN (Below.refl _ _) _
   replace cx := cell_later hb cx
   replace fx := froz_later hb (HM.out.ar.lt (by decide)) fx
   replace HM := hidp (HM.out.later hb)
   clear hV hb HR
   obtain ⟨y0, y1⟩ := hwd
   go_wp2
   go_roundw
   case rel => exact ⟨k + 1, by omega, by go_num, by unfold Hid; rw [fw, ← HY.out]; exact HM.out.set (by omega) (by omega) (4 + k) (by omega) y⟩
   case measure => simp [intOf]; omega
  ·have e : k = 8 := by omega
   subst e
   obtain ⟨x, cx, fx, -, -⟩ := ar_word HM.out.ar (fw_w iv0_w 4 HK.out.byt 8) 12 (by decide)
   go_wp2
   clear cx fx
   obtain ⟨W2, hW2⟩ : ∃ W, W = wr.setCell ⟨b7, 12, none⟩ (.int .u32 count) := ⟨_, rfl⟩
   rw [← hW2]
   obtain ⟨L1, HL1⟩ : ∃ L, Hid (L = (fw iv0 4 key 8).set 12 count) := ⟨_, rfl⟩
   have HW1 : Hid (W16 L1) := by unfold Hid; rw [HL1.out]; exact (fw_w iv0_w 4 HK.out.byt 8).set 12 HWC.out
   replace HM : Hid (Mr w q1 q2 b7 key nonce L1 W2) := by unfold Hid; rw [HL1.out, hW2]; exact HM.out.set (by omega) (by omega) 12 (by decide) count
   clear hW2
   go_loopw [9] (fun i wr => ∃ k : Nat, k ≤ 3 ∧ i = .int .i64 k ∧ Hid (Mr w q1 q2 b7 key nonce (fw L1 13 nonce k) wr)) (fun i _ => 3 - (intOf i).toNat)
   case atStart => exact ⟨0, by decide, rfl, HM⟩
   case round =>
    clear HM hlt
    obtain ⟨k, hk, rfl, HM⟩ := hrel
    by_cases hlt : k < 3
    ·have g1 : (k : Int) < 3 := by omega
     have g2 : 4 * (k : Int) + 4 ≤ 12 := by omega
     have g3 : 4 * (k : Int) ≤ 4 * (k : Int) + 4 := by omega
     have g4 : 0 ≤ 4 * (k : Int) := by omega
     have hR : Rd wr (some ⟨q1, 4 * k, none⟩) 4 (12 - 4 * k) ((nonce.drop (4 * k)).take 4) := HM.out.an.rd HN.out.byt (4 * k) 4 (12 - 4 * k) (by omega) (by omega)
     have HR : Hid _ := hR
     clear hR
     obtain ⟨x, cx, fx, -, -⟩ := ar_word HM.out.ar (fw_w HW1.out 13 HN.out.byt k) (13 + k) (by omega)
     have t1 : (4 * (k : Int)).toNat = 4 * k := by omega
     have t2 : (4 * (k : Int) + 4).toNat = 4 * k + 4 := by omega
     have t3 : 4 * k + 4 - 4 * k = 4 := by omega
     have t4 : ¬ 12 = 4 * k := by omega
     have t5 : (13 + (k : Int)).toNat = 13 + k := by omega
     go_wp2_with fail
     refine (refget32_any _ _ _ _ _ HR.out (by decide)).mono ?_
     rintro e V ⟨rfl, nq, hV⟩
     rw [got_cut _ (by rw [List.length_drop, HN.out.len]; omega), show got 4 (nonce.drop (4 * k)) = wat nonce k from rfl]
     have hwd : W32 (wat nonce k) := wat_w HN.out.byt k
     obtain ⟨y, HY⟩ : ∃ y, Hid (y = wat nonce k) := ⟨_, rfl⟩
     rw [← HY.out] at hwd ⊢
     have hb : Below wr.heap.size wr V := by rw [hV]; exact below_drewN (Below.refl _ _) _
     replace cx := cell_later hb cx
     replace fx := froz_later hb (HM.out.ar.lt (by decide)) fx
     replace HM := hidp (HM.out.later hb)
     clear hV hb HR
     obtain ⟨y0, y1⟩ := hwd
     go_wp2
     go_roundw
     case rel => (repeat apply Exists.intro); exact ⟨⟨k + 1, by omega, by go_num, by unfold Hid; rw [fw, ← HY.out]; exact HM.out.set (by omega) (by omega) (13 + k) (by omega) y⟩, rfl⟩
     case measure => simp [intOf]; omega
    ·have e : k = 3 := by omega
     subst e
     obtain ⟨S, HS⟩ : ∃ L, Hid (L = st key count nonce) := ⟨_, rfl⟩
     have HWS : Hid (W16 S) := by unfold Hid; rw [HS.out]; exact st_w HK.out.byt HWC.out HN.out.byt
     replace HM : Hid (Mr w q1 q2 b7 key nonce S wr) := by unfold Hid; rw [HS.out]; unfold st; rw [← HL1.out]; exact HM.out
     clear HL1 HW1 hk hlt
     obtain ⟨hlen, hone, hi⟩ := r16_cells HWS.out
     obtain ⟨cs, hcs⟩ : ∃ cs, Hid (cs = (List.map (Value.int .u32) S)) := ⟨_, rfl⟩
     rw [← hcs.out] at hlen hone hi
     have hrg : wr.rangeAt b7 0 cs := by rw [hcs.out]; exact HM.out.ar.rng
     have hth := there_new wr 16 zw16 rfl 65
     have k4 : b7 < wr.heap.size := HM.out.ar.lt (by decide)
     go_wp2_with (first
      | (refine wpList_load_mid rfl 65 (.tmp 7) rfl b7 0 rfl cs _ hrg Tryz.underlying65 rfl hi ?_)
      | (refine wpList_store_mid rfl 65 (.tmp 10) (.tmp 52) rfl (wr.heap.size) 0 cs.toArray rfl rfl (by simpa [hlen] using hth) (by simpa using hi) (all_oneCell_toArray hone) ?_))
     clear hth hrg
     obtain ⟨W3, hW3⟩ : ∃ W, W = (wr.alloc (.cells zw16 65)).setCells wr.heap.size 0 cs := ⟨_, rfl⟩
     obtain ⟨b10, hb10⟩ : ∃ b, b = wr.heap.size := ⟨_, rfl⟩
     rw [← hW3, ← hb10]
     have A10 : Hid (Ar W3 b10 16 (List.map (Value.int .u32) S)) := by unfold Hid; rw [hW3, hb10, ← hcs.out]; exact ar_var wr _ 16 rfl _ _ hlen
     replace HM : Hid (Mr w q1 q2 b7 key nonce S W3) := by unfold Hid; rw [hW3]; exact HM.out.later (bel_var _ _ _ _)
     rw [← hb10] at k4
     clear hW3 hb10 hcs hlen hone hi
     go_loopw [11] (fun i wr => ∃ (k : Nat) (L : List Int), k ≤ 10 ∧ i = .int .i64 k ∧ Hid (L = mx S k) ∧ Hid (W16 L) ∧ Hid (Mr w q1 q2 b7 key nonce S wr) ∧ Hid (Ar wr b10 16 (List.map (Value.int .u32) L))) (fun i _ => 10 - (intOf i).toNat)
     case atStart => exact ⟨0, S, by decide, rfl, rfl, HWS, HM, A10⟩
     case round =>
      clear HM A10
      obtain ⟨k, L, hk, rfl, HL, HWL, HM, A10⟩ := hrel
      by_cases hlt : k < 10
      ·have g1 : (k : Int) < 10 := by omega
       go_wp2
       go_loopw [12] (fun i wr => ∃ j : Nat, j ≤ 8 ∧ i = .int .i64 j ∧ Hid (Mr w q1 q2 b7 key nonce S wr) ∧ Hid (Ar wr b10 16 (List.map (Value.int .u32) (ql L j)))) (fun i _ => 8 - (intOf i).toNat)
       case atStart => exact ⟨0, by decide, rfl, HM, A10⟩
       case round =>
        clear HM A10
        obtain ⟨j, hj, rfl, HM, A10⟩ := hrel
        by_cases hlt2 : j < 8
        ·have g2 : (j : Int) < 8 := by omega
         obtain ⟨n0, H0⟩ : ∃ n, Hid (n = rr j 0) := ⟨_, rfl⟩
         obtain ⟨n1, H1⟩ : ∃ n, Hid (n = rr j 1) := ⟨_, rfl⟩
         obtain ⟨n2, H2⟩ : ∃ n, Hid (n = rr j 2) := ⟨_, rfl⟩
         obtain ⟨n3, H3⟩ : ∃ n, Hid (n = rr j 3) := ⟨_, rfl⟩
         have l0 : n0 < 16 := by rw [H0.out]; exact rr_lt j hlt2 0 (by decide)
         have l1 : n1 < 16 := by rw [H1.out]; exact rr_lt j hlt2 1 (by decide)
         have l2 : n2 < 16 := by rw [H2.out]; exact rr_lt j hlt2 2 (by decide)
         have l3 : n3 < 16 := by rw [H3.out]; exact rr_lt j hlt2 3 (by decide)
         have hrow : wr.rangeAt 1 (4 * j) [.int .i64 n0, .int .i64 n1, .int .i64 n2, .int .i64 n3] := by
          have := range_sub HM.out.gr (4 * j) 4
          rw [Nat.zero_add, ← List.map_drop, ← List.map_take, rr_row j hlt2] at this
          rw [H0.out, H1.out, H2.out, H3.out]
          exact this
         have c0 : wr.cell? ⟨1, j * 4, none⟩ = some (.int .i64 n0) := by have := hrow 0 _ rfl; rwa [Nat.add_zero, Nat.mul_comm] at this
         have c1 : wr.cell? ⟨1, j * 4 + 1, none⟩ = some (.int .i64 n1) := by have := hrow 1 _ rfl; rwa [Nat.mul_comm] at this
         have c2 : wr.cell? ⟨1, j * 4 + 2, none⟩ = some (.int .i64 n2) := by have := hrow 2 _ rfl; rwa [Nat.mul_comm] at this
         have c3 : wr.cell? ⟨1, j * 4 + 3, none⟩ = some (.int .i64 n3) := by have := hrow 3 _ rfl; rwa [Nat.mul_comm] at this
         clear hrow
         go_upto_region 23 with fail
         clear c0 c1 c2 c3
         obtain ⟨V0, hV0⟩ : ∃ V, V = wr.alloc (.cells #[.int .i64 n0, .int .i64 n1, .int .i64 n2, .int .i64 n3] 70) := ⟨_, rfl⟩
         obtain ⟨b13, hb13⟩ : ∃ b, b = wr.heap.size := ⟨_, rfl⟩
         rw [← hV0, ← hb13]
         have hbl : Below wr.heap.size wr V0 := by rw [hV0]; exact bel1 _ _
         have k5 : b10 < b13 := by rw [hb13]; exact A10.out.lt (by decide)
         have A13 : Hid (Ar V0 b13 4 [.int .i64 n0, .int .i64 n1, .int .i64 n2, .int .i64 n3]) := by unfold Hid; rw [hV0, hb13]; exact ar_box wr _ 4 rfl _
         replace HM := hidp (HM.out.later hbl)
         replace A10 := hidp (A10.out.later hbl)
         clear hbl hV0 hb13
         have HQL : Hid (W16 (ql L j)) := ql_w HWL.out j
         have xu0 : ∀ u, ExtB b10 V0 u → u.cell? ⟨b13, 0, none⟩ = some (.int .i64 n0) := fun u hu => hu.cell (by omega) (by have := A13.out.rng 0 _ rfl; rwa [Nat.zero_add] at this)
         have xu1 : ∀ u, ExtB b10 V0 u → u.cell? ⟨b13, 1, none⟩ = some (.int .i64 n1) := fun u hu => hu.cell (by omega) (by have := A13.out.rng 1 _ rfl; rwa [Nat.zero_add] at this)
         have xu2 : ∀ u, ExtB b10 V0 u → u.cell? ⟨b13, 2, none⟩ = some (.int .i64 n2) := fun u hu => hu.cell (by omega) (by have := A13.out.rng 2 _ rfl; rwa [Nat.zero_add] at this)
         have xu3 : ∀ u, ExtB b10 V0 u → u.cell? ⟨b13, 3, none⟩ = some (.int .i64 n3) := fun u hu => hu.cell (by omega) (by have := A13.out.rng 3 _ rfl; rwa [Nat.zero_add] at this)
         clear A13
         have gn0 : (n0 : Int) < 16 := by omega
         have gn1 : (n1 : Int) < 16 := by omega
         have gn2 : (n2 : Int) < 16 := by omega
         have gn3 : (n3 : Int) < 16 := by omega
         obtain ⟨y0, d0, f0, r0, HY0⟩ := ar_word A10.out.drew HQL.out n0 l0
         obtain ⟨y1, d1, f1, r1, HY1⟩ := ar_word A10.out.drew HQL.out n1 l1
         obtain ⟨y2, d2, f2, r2, HY2⟩ := ar_word A10.out.drew HQL.out n2 l2
         obtain ⟨y3, d3, f3, r3, HY3⟩ := ar_word A10.out.drew HQL.out n3 l3
         clear f0 f1 f2 f3
         refine wp_region_noPanic ?_
         refine wp_region_held_drew (S := ExtB b10 V0) (by kernel_rfl) (ExtB.refl _ _).drew (fun hH => ?_)
         change wpAnyH _ _ _ _ _ _ #[false, false, false, false, false, false, false, false, false, false, false, false, false, false, false, false, false, false, false, false, false, false, false, false, false, false, false, false, false, false, false, false, false, false, false, false, false, false] _ _
         refine tk 0 ?_
         try simp only [Act.put, List.setIfInBounds_toArray, List.set_cons_zero, List.set_cons_succ]
         refine tk 1 ?_ (hy := by (intro u hu; (have hx := xu0 u hu; go_simp) <;> with_reducible rfl))
         try simp only [Act.put, List.setIfInBounds_toArray, List.set_cons_zero, List.set_cons_succ]
         refine tk 2 ?_
         try simp only [Act.put, List.setIfInBounds_toArray, List.set_cons_zero, List.set_cons_succ]
         refine tk 3 ?_ (hy := by (intro u hu; (have hx := xu1 u hu; go_simp) <;> with_reducible rfl))
         try simp only [Act.put, List.setIfInBounds_toArray, List.set_cons_zero, List.set_cons_succ]
         refine tk 4 ?_
         try simp only [Act.put, List.setIfInBounds_toArray, List.set_cons_zero, List.set_cons_succ]
         refine tk 5 ?_ (hy := by (intro u hu; (have hx := xu2 u hu; go_simp) <;> with_reducible rfl))
         try simp only [Act.put, List.setIfInBounds_toArray, List.set_cons_zero, List.set_cons_succ]
         refine tk 6 ?_
         try simp only [Act.put, List.setIfInBounds_toArray, List.set_cons_zero, List.set_cons_succ]
         refine tk 7 ?_ (hy := by (intro u hu; (have hx := xu3 u hu; go_simp) <;> with_reducible rfl))
         try simp only [Act.put, List.setIfInBounds_toArray, List.set_cons_zero, List.set_cons_succ]
         refine tk 8 ?_
         try simp only [Act.put, List.setIfInBounds_toArray, List.set_cons_zero, List.set_cons_succ]
         refine tk 9 ?_ (hy := by (intro u hu; (have hx := xu0 u hu; go_simp) <;> with_reducible rfl))
         try simp only [Act.put, List.setIfInBounds_toArray, List.set_cons_zero, List.set_cons_succ]
         refine tk 10 ?_
         try simp only [Act.put, List.setIfInBounds_toArray, List.set_cons_zero, List.set_cons_succ]
         refine tk 12 ?_
         try simp only [Act.put, List.setIfInBounds_toArray, List.set_cons_zero, List.set_cons_succ]
         refine tk 13 ?_ (hy := by (intro u hu; (have hx := xu1 u hu; go_simp) <;> with_reducible rfl))
         try simp only [Act.put, List.setIfInBounds_toArray, List.set_cons_zero, List.set_cons_succ]
         refine tk 14 ?_
         try simp only [Act.put, List.setIfInBounds_toArray, List.set_cons_zero, List.set_cons_succ]
         refine tk 16 ?_
         try simp only [Act.put, List.setIfInBounds_toArray, List.set_cons_zero, List.set_cons_succ]
         refine tk 17 ?_ (hy := by (intro u hu; (have hx := xu2 u hu; go_simp) <;> with_reducible rfl))
         try simp only [Act.put, List.setIfInBounds_toArray, List.set_cons_zero, List.set_cons_succ]
         refine tk 18 ?_
         try simp only [Act.put, List.setIfInBounds_toArray, List.set_cons_zero, List.set_cons_succ]
         refine tk 20 ?_
         try simp only [Act.put, List.setIfInBounds_toArray, List.set_cons_zero, List.set_cons_succ]
         refine tk 21 ?_ (hy := by (intro u hu; (have hx := xu3 u hu; go_simp) <;> with_reducible rfl))
         try simp only [Act.put, List.setIfInBounds_toArray, List.set_cons_zero, List.set_cons_succ]
         refine tk 22 ?_
         try simp only [Act.put, List.setIfInBounds_toArray, List.set_cons_zero, List.set_cons_succ]
         clear xu0 xu1 xu2 xu3
         apply cutg
         case h =>
          intro hrest
          refine wpAnyH_ready (rs := [11, 15, 19, 23]) (by kernel_rfl) (by simp) ?_
          refine AllReadyH.cons (o := ?o11w1) ?h11w1 (fun K hK => ?_) (AllReadyH.cons (o := ?o15w1) ?h15w1 (fun K hK => ?_) (AllReadyH.cons (o := ?o19w1) ?h19w1 (fun K hK => ?_) (AllReadyH.cons (o := ?o23w1) ?h23w1 (fun K hK => ?_) AllReadyH.nil)))
          case h11w1 => simp only [List.getElem?_toArray]; rfl
          case h15w1 => simp only [List.getElem?_toArray]; rfl
          case h19w1 => simp only [List.getElem?_toArray]; rfl
          case h23w1 => simp only [List.getElem?_toArray]; rfl
          ·go_simp
           refine hK.out _ _ hH (fun _ => ?_)
           clear hK K
           try simp only [List.setIfInBounds_toArray, List.set]
           refine wpAnyH_ready (rs := [15, 19, 23]) (by kernel_rfl) (by simp) ?_
           refine AllReadyH.cons (o := ?o15w2) ?h15w2 (fun K hK => ?_) (AllReadyH.cons (o := ?o19w2) ?h19w2 (fun K hK => ?_) (AllReadyH.cons (o := ?o23w2) ?h23w2 (fun K hK => ?_) AllReadyH.nil))
           case h15w2 => simp only [List.getElem?_toArray]; rfl
           case h19w2 => simp only [List.getElem?_toArray]; rfl
           case h23w2 => simp only [List.getElem?_toArray]; rfl
           ·go_simp
            refine hK.out _ _ hH (fun _ => ?_)
            clear hK K
            try simp only [List.setIfInBounds_toArray, List.set]
            refine wpAnyH_ready (rs := [19, 23]) (by kernel_rfl) (by simp) ?_
            refine AllReadyH.cons (o := ?o19w3) ?h19w3 (fun K hK => ?_) (AllReadyH.cons (o := ?o23w3) ?h23w3 (fun K hK => ?_) AllReadyH.nil)
            case h19w3 => simp only [List.getElem?_toArray]; rfl
            case h23w3 => simp only [List.getElem?_toArray]; rfl
            ·go_simp
             refine hK.out _ _ hH (fun _ => ?_)
             clear hK K
             try simp only [List.setIfInBounds_toArray, List.set]
             refine rdy 23 (fun K hK => ?_)
             ·go_simp
              refine hK.out _ _ hH (fun _ => ?_)
              clear hK K
              try simp only [List.setIfInBounds_toArray, List.set]
              exact hrest
            ·go_simp
             refine hK.out _ _ hH (fun _ => ?_)
             clear hK K
             try simp only [List.setIfInBounds_toArray, List.set]
             refine rdy 19 (fun K hK => ?_)
             ·go_simp
              refine hK.out _ _ hH (fun _ => ?_)
              clear hK K
              try simp only [List.setIfInBounds_toArray, List.set]
              exact hrest
           ·go_simp
            refine hK.out _ _ hH (fun _ => ?_)
            clear hK K
            try simp only [List.setIfInBounds_toArray, List.set]
            refine wpAnyH_ready (rs := [15, 23]) (by kernel_rfl) (by simp) ?_
            refine AllReadyH.cons (o := ?o15w6) ?h15w6 (fun K hK => ?_) (AllReadyH.cons (o := ?o23w6) ?h23w6 (fun K hK => ?_) AllReadyH.nil)
            case h15w6 => simp only [List.getElem?_toArray]; rfl
            case h23w6 => simp only [List.getElem?_toArray]; rfl
            ·go_simp
             refine hK.out _ _ hH (fun _ => ?_)
             clear hK K
             try simp only [List.setIfInBounds_toArray, List.set]
             refine rdy 23 (fun K hK => ?_)
             ·go_simp
              refine hK.out _ _ hH (fun _ => ?_)
              clear hK K
              try simp only [List.setIfInBounds_toArray, List.set]
              exact hrest
            ·go_simp
             refine hK.out _ _ hH (fun _ => ?_)
             clear hK K
             try simp only [List.setIfInBounds_toArray, List.set]
             refine rdy 15 (fun K hK => ?_)
             ·go_simp
              refine hK.out _ _ hH (fun _ => ?_)
              clear hK K
              try simp only [List.setIfInBounds_toArray, List.set]
              exact hrest
           ·go_simp
            refine hK.out _ _ hH (fun _ => ?_)
            clear hK K
            try simp only [List.setIfInBounds_toArray, List.set]
            refine wpAnyH_ready (rs := [15, 19]) (by kernel_rfl) (by simp) ?_
            refine AllReadyH.cons (o := ?o15w9) ?h15w9 (fun K hK => ?_) (AllReadyH.cons (o := ?o19w9) ?h19w9 (fun K hK => ?_) AllReadyH.nil)
            case h15w9 => simp only [List.getElem?_toArray]; rfl
            case h19w9 => simp only [List.getElem?_toArray]; rfl
            ·go_simp
             refine hK.out _ _ hH (fun _ => ?_)
             clear hK K
             try simp only [List.setIfInBounds_toArray, List.set]
             refine rdy 19 (fun K hK => ?_)
             ·go_simp
              refine hK.out _ _ hH (fun _ => ?_)
              clear hK K
              try simp only [List.setIfInBounds_toArray, List.set]
              exact hrest
            ·go_simp
             refine hK.out _ _ hH (fun _ => ?_)
             clear hK K
             try simp only [List.setIfInBounds_toArray, List.set]
             refine rdy 15 (fun K hK => ?_)
             ·go_simp
              refine hK.out _ _ hH (fun _ => ?_)
              clear hK K
              try simp only [List.setIfInBounds_toArray, List.set]
              exact hrest
          ·go_simp
           refine hK.out _ _ hH (fun _ => ?_)
           clear hK K
           try simp only [List.setIfInBounds_toArray, List.set]
           refine wpAnyH_ready (rs := [11, 19, 23]) (by kernel_rfl) (by simp) ?_
           refine AllReadyH.cons (o := ?o11w12) ?h11w12 (fun K hK => ?_) (AllReadyH.cons (o := ?o19w12) ?h19w12 (fun K hK => ?_) (AllReadyH.cons (o := ?o23w12) ?h23w12 (fun K hK => ?_) AllReadyH.nil))
           case h11w12 => simp only [List.getElem?_toArray]; rfl
           case h19w12 => simp only [List.getElem?_toArray]; rfl
           case h23w12 => simp only [List.getElem?_toArray]; rfl
           ·go_simp
            refine hK.out _ _ hH (fun _ => ?_)
            clear hK K
            try simp only [List.setIfInBounds_toArray, List.set]
            refine wpAnyH_ready (rs := [19, 23]) (by kernel_rfl) (by simp) ?_
            refine AllReadyH.cons (o := ?o19w13) ?h19w13 (fun K hK => ?_) (AllReadyH.cons (o := ?o23w13) ?h23w13 (fun K hK => ?_) AllReadyH.nil)
            case h19w13 => simp only [List.getElem?_toArray]; rfl
            case h23w13 => simp only [List.getElem?_toArray]; rfl
            ·go_simp
             refine hK.out _ _ hH (fun _ => ?_)
             clear hK K
             try simp only [List.setIfInBounds_toArray, List.set]
             refine rdy 23 (fun K hK => ?_)
             ·go_simp
              refine hK.out _ _ hH (fun _ => ?_)
              clear hK K
              try simp only [List.setIfInBounds_toArray, List.set]
              exact hrest
            ·go_simp
             refine hK.out _ _ hH (fun _ => ?_)
             clear hK K
             try simp only [List.setIfInBounds_toArray, List.set]
             refine rdy 19 (fun K hK => ?_)
             ·go_simp
              refine hK.out _ _ hH (fun _ => ?_)
              clear hK K
              try simp only [List.setIfInBounds_toArray, List.set]
              exact hrest
           ·go_simp
            refine hK.out _ _ hH (fun _ => ?_)
            clear hK K
            try simp only [List.setIfInBounds_toArray, List.set]
            refine wpAnyH_ready (rs := [11, 23]) (by kernel_rfl) (by simp) ?_
            refine AllReadyH.cons (o := ?o11w16) ?h11w16 (fun K hK => ?_) (AllReadyH.cons (o := ?o23w16) ?h23w16 (fun K hK => ?_) AllReadyH.nil)
            case h11w16 => simp only [List.getElem?_toArray]; rfl
            case h23w16 => simp only [List.getElem?_toArray]; rfl
            ·go_simp
             refine hK.out _ _ hH (fun _ => ?_)
             clear hK K
             try simp only [List.setIfInBounds_toArray, List.set]
             refine rdy 23 (fun K hK => ?_)
             ·go_simp
              refine hK.out _ _ hH (fun _ => ?_)
              clear hK K
              try simp only [List.setIfInBounds_toArray, List.set]
              exact hrest
            ·go_simp
             refine hK.out _ _ hH (fun _ => ?_)
             clear hK K
             try simp only [List.setIfInBounds_toArray, List.set]
             refine rdy 11 (fun K hK => ?_)
             ·go_simp
              refine hK.out _ _ hH (fun _ => ?_)
              clear hK K
              try simp only [List.setIfInBounds_toArray, List.set]
              exact hrest
           ·go_simp
            refine hK.out _ _ hH (fun _ => ?_)
            clear hK K
            try simp only [List.setIfInBounds_toArray, List.set]
            refine wpAnyH_ready (rs := [11, 19]) (by kernel_rfl) (by simp) ?_
            refine AllReadyH.cons (o := ?o11w19) ?h11w19 (fun K hK => ?_) (AllReadyH.cons (o := ?o19w19) ?h19w19 (fun K hK => ?_) AllReadyH.nil)
            case h11w19 => simp only [List.getElem?_toArray]; rfl
            case h19w19 => simp only [List.getElem?_toArray]; rfl
            ·go_simp
             refine hK.out _ _ hH (fun _ => ?_)
             clear hK K
             try simp only [List.setIfInBounds_toArray, List.set]
             refine rdy 19 (fun K hK => ?_)
             ·go_simp
              refine hK.out _ _ hH (fun _ => ?_)
              clear hK K
              try simp only [List.setIfInBounds_toArray, List.set]
              exact hrest
            ·go_simp
             refine hK.out _ _ hH (fun _ => ?_)
             clear hK K
             try simp only [List.setIfInBounds_toArray, List.set]
             refine rdy 11 (fun K hK => ?_)
             ·go_simp
              refine hK.out _ _ hH (fun _ => ?_)
              clear hK K
              try simp only [List.setIfInBounds_toArray, List.set]
              exact hrest
          ·go_simp
           refine hK.out _ _ hH (fun _ => ?_)
           clear hK K
           try simp only [List.setIfInBounds_toArray, List.set]
           refine wpAnyH_ready (rs := [11, 15, 23]) (by kernel_rfl) (by simp) ?_
           refine AllReadyH.cons (o := ?o11w22) ?h11w22 (fun K hK => ?_) (AllReadyH.cons (o := ?o15w22) ?h15w22 (fun K hK => ?_) (AllReadyH.cons (o := ?o23w22) ?h23w22 (fun K hK => ?_) AllReadyH.nil))
           case h11w22 => simp only [List.getElem?_toArray]; rfl
           case h15w22 => simp only [List.getElem?_toArray]; rfl
           case h23w22 => simp only [List.getElem?_toArray]; rfl
           ·go_simp
            refine hK.out _ _ hH (fun _ => ?_)
            clear hK K
            try simp only [List.setIfInBounds_toArray, List.set]
            refine wpAnyH_ready (rs := [15, 23]) (by kernel_rfl) (by simp) ?_
            refine AllReadyH.cons (o := ?o15w23) ?h15w23 (fun K hK => ?_) (AllReadyH.cons (o := ?o23w23) ?h23w23 (fun K hK => ?_) AllReadyH.nil)
            case h15w23 => simp only [List.getElem?_toArray]; rfl
            case h23w23 => simp only [List.getElem?_toArray]; rfl
            ·go_simp
             refine hK.out _ _ hH (fun _ => ?_)
             clear hK K
             try simp only [List.setIfInBounds_toArray, List.set]
             refine rdy 23 (fun K hK => ?_)
             ·go_simp
              refine hK.out _ _ hH (fun _ => ?_)
              clear hK K
              try simp only [List.setIfInBounds_toArray, List.set]
              exact hrest
            ·go_simp
             refine hK.out _ _ hH (fun _ => ?_)
             clear hK K
             try simp only [List.setIfInBounds_toArray, List.set]
             refine rdy 15 (fun K hK => ?_)
             ·go_simp
              refine hK.out _ _ hH (fun _ => ?_)
              clear hK K
              try simp only [List.setIfInBounds_toArray, List.set]
              exact hrest
           ·go_simp
            refine hK.out _ _ hH (fun _ => ?_)
            clear hK K
            try simp only [List.setIfInBounds_toArray, List.set]
            refine wpAnyH_ready (rs := [11, 23]) (by kernel_rfl) (by simp) ?_
            refine AllReadyH.cons (o := ?o11w26) ?h11w26 (fun K hK => ?_) (AllReadyH.cons (o := ?o23w26) ?h23w26 (fun K hK => ?_) AllReadyH.nil)
            case h11w26 => simp only [List.getElem?_toArray]; rfl
            case h23w26 => simp only [List.getElem?_toArray]; rfl
            ·go_simp
             refine hK.out _ _ hH (fun _ => ?_)
             clear hK K
             try simp only [List.setIfInBounds_toArray, List.set]
             refine rdy 23 (fun K hK => ?_)
             ·go_simp
              refine hK.out _ _ hH (fun _ => ?_)
              clear hK K
              try simp only [List.setIfInBounds_toArray, List.set]
              exact hrest
            ·go_simp
             refine hK.out _ _ hH (fun _ => ?_)
             clear hK K
             try simp only [List.setIfInBounds_toArray, List.set]
             refine rdy 11 (fun K hK => ?_)
             ·go_simp
              refine hK.out _ _ hH (fun _ => ?_)
              clear hK K
              try simp only [List.setIfInBounds_toArray, List.set]
              exact hrest
           ·go_simp
            refine hK.out _ _ hH (fun _ => ?_)
            clear hK K
            try simp only [List.setIfInBounds_toArray, List.set]
            refine wpAnyH_ready (rs := [11, 15]) (by kernel_rfl) (by simp) ?_
            refine AllReadyH.cons (o := ?o11w29) ?h11w29 (fun K hK => ?_) (AllReadyH.cons (o := ?o15w29) ?h15w29 (fun K hK => ?_) AllReadyH.nil)
            case h11w29 => simp only [List.getElem?_toArray]; rfl
            case h15w29 => simp only [List.getElem?_toArray]; rfl
            ·go_simp
             refine hK.out _ _ hH (fun _ => ?_)
             clear hK K
             try simp only [List.setIfInBounds_toArray, List.set]
             refine rdy 15 (fun K hK => ?_)
             ·go_simp
              refine hK.out _ _ hH (fun _ => ?_)
              clear hK K
              try simp only [List.setIfInBounds_toArray, List.set]
              exact hrest
            ·go_simp
             refine hK.out _ _ hH (fun _ => ?_)
             clear hK K
             try simp only [List.setIfInBounds_toArray, List.set]
             refine rdy 11 (fun K hK => ?_)
             ·go_simp
              refine hK.out _ _ hH (fun _ => ?_)
              clear hK K
              try simp only [List.setIfInBounds_toArray, List.set]
              exact hrest
          ·go_simp
           refine hK.out _ _ hH (fun _ => ?_)
           clear hK K
           try simp only [List.setIfInBounds_toArray, List.set]
           refine wpAnyH_ready (rs := [11, 15, 19]) (by kernel_rfl) (by simp) ?_
           refine AllReadyH.cons (o := ?o11w32) ?h11w32 (fun K hK => ?_) (AllReadyH.cons (o := ?o15w32) ?h15w32 (fun K hK => ?_) (AllReadyH.cons (o := ?o19w32) ?h19w32 (fun K hK => ?_) AllReadyH.nil))
           case h11w32 => simp only [List.getElem?_toArray]; rfl
           case h15w32 => simp only [List.getElem?_toArray]; rfl
           case h19w32 => simp only [List.getElem?_toArray]; rfl
           ·go_simp
            refine hK.out _ _ hH (fun _ => ?_)
            clear hK K
            try simp only [List.setIfInBounds_toArray, List.set]
            refine wpAnyH_ready (rs := [15, 19]) (by kernel_rfl) (by simp) ?_
            refine AllReadyH.cons (o := ?o15w33) ?h15w33 (fun K hK => ?_) (AllReadyH.cons (o := ?o19w33) ?h19w33 (fun K hK => ?_) AllReadyH.nil)
            case h15w33 => simp only [List.getElem?_toArray]; rfl
            case h19w33 => simp only [List.getElem?_toArray]; rfl
            ·go_simp
             refine hK.out _ _ hH (fun _ => ?_)
             clear hK K
             try simp only [List.setIfInBounds_toArray, List.set]
             refine rdy 19 (fun K hK => ?_)
             ·go_simp
              refine hK.out _ _ hH (fun _ => ?_)
              clear hK K
              try simp only [List.setIfInBounds_toArray, List.set]
              exact hrest
            ·go_simp
             refine hK.out _ _ hH (fun _ => ?_)
             clear hK K
             try simp only [List.setIfInBounds_toArray, List.set]
             refine rdy 15 (fun K hK => ?_)
             ·go_simp
              refine hK.out _ _ hH (fun _ => ?_)
              clear hK K
              try simp only [List.setIfInBounds_toArray, List.set]
              exact hrest
           ·go_simp
            refine hK.out _ _ hH (fun _ => ?_)
            clear hK K
            try simp only [List.setIfInBounds_toArray, List.set]
            refine wpAnyH_ready (rs := [11, 19]) (by kernel_rfl) (by simp) ?_
            refine AllReadyH.cons (o := ?o11w36) ?h11w36 (fun K hK => ?_) (AllReadyH.cons (o := ?o19w36) ?h19w36 (fun K hK => ?_) AllReadyH.nil)
            case h11w36 => simp only [List.getElem?_toArray]; rfl
            case h19w36 => simp only [List.getElem?_toArray]; rfl
            ·go_simp
             refine hK.out _ _ hH (fun _ => ?_)
             clear hK K
             try simp only [List.setIfInBounds_toArray, List.set]
             refine rdy 19 (fun K hK => ?_)
             ·go_simp
              refine hK.out _ _ hH (fun _ => ?_)
              clear hK K
              try simp only [List.setIfInBounds_toArray, List.set]
              exact hrest
            ·go_simp
             refine hK.out _ _ hH (fun _ => ?_)
             clear hK K
             try simp only [List.setIfInBounds_toArray, List.set]
             refine rdy 11 (fun K hK => ?_)
             ·go_simp
              refine hK.out _ _ hH (fun _ => ?_)
              clear hK K
              try simp only [List.setIfInBounds_toArray, List.set]
              exact hrest
           ·go_simp
            refine hK.out _ _ hH (fun _ => ?_)
            clear hK K
            try simp only [List.setIfInBounds_toArray, List.set]
            refine wpAnyH_ready (rs := [11, 15]) (by kernel_rfl) (by simp) ?_
            refine AllReadyH.cons (o := ?o11w39) ?h11w39 (fun K hK => ?_) (AllReadyH.cons (o := ?o15w39) ?h15w39 (fun K hK => ?_) AllReadyH.nil)
            case h11w39 => simp only [List.getElem?_toArray]; rfl
            case h15w39 => simp only [List.getElem?_toArray]; rfl
            ·go_simp
             refine hK.out _ _ hH (fun _ => ?_)
             clear hK K
             try simp only [List.setIfInBounds_toArray, List.set]
             refine rdy 15 (fun K hK => ?_)
             ·go_simp
              refine hK.out _ _ hH (fun _ => ?_)
              clear hK K
              try simp only [List.setIfInBounds_toArray, List.set]
              exact hrest
            ·go_simp
             refine hK.out _ _ hH (fun _ => ?_)
             clear hK K
             try simp only [List.setIfInBounds_toArray, List.set]
             refine rdy 11 (fun K hK => ?_)
             ·go_simp
              refine hK.out _ _ hH (fun _ => ?_)
              clear hK K
              try simp only [List.setIfInBounds_toArray, List.set]
              exact hrest
         case ha =>
          clear d0 d1 d2 d3
          refine rdy 24 (fun K hK => ?_)
          go_simp
          refine (rquarter_c y0 y1 y2 y3 r0 r1 r2 r3 _).mono ?_
          rintro e V1 ⟨p0, p1, p2, p3, rfl, HQ, -, -, -, -, hb⟩
          refine hK.out _ _ (hH.trans hb) (fun hH' => ?_)
          clear hK K hH; have hH := hH'; clear hH'; try simp only [List.setIfInBounds_toArray, List.set]
          replace hb : Below V0.heap.size V0 V1 := (Below.refl _ _).drew.trans (hb.mono (Nat.le_refl _))
          replace A10 := hidp (A10.out.later hb)
          replace HM := hidp (HM.out.later hb)
          clear hb r0 r1 r2 r3
          refine tk 25 ?_
          try simp only [Act.put, List.setIfInBounds_toArray, List.set_cons_zero, List.set_cons_succ]
          refine tk 26 ?_
          try simp only [Act.put, List.setIfInBounds_toArray, List.set_cons_zero, List.set_cons_succ]
          refine tk 27 ?_
          try simp only [Act.put, List.setIfInBounds_toArray, List.set_cons_zero, List.set_cons_succ]
          refine tk 28 ?_
          try simp only [Act.put, List.setIfInBounds_toArray, List.set_cons_zero, List.set_cons_succ]
          refine tk 29 ?_
          try simp only [Act.put, List.setIfInBounds_toArray, List.set_cons_zero, List.set_cons_succ]
          refine tk 30 ?_
          try simp only [Act.put, List.setIfInBounds_toArray, List.set_cons_zero, List.set_cons_succ]
          obtain ⟨hc0, hf0⟩ := A10.out.cell n0 l0
          refine rdy 31 (fun K hK => ?_)
          go_simp
          refine hK.out _ _ (hH.set _ _) (fun hH' => ?_)
          clear hK K hH; have hH := hH'; clear hH'; try simp only [List.setIfInBounds_toArray, List.set]
          clear hc0 hf0
          obtain ⟨U0, hU⟩ : ∃ U, U = V1.setCell ⟨b10, n0, none⟩ (.int .u32 p0) := ⟨_, rfl⟩
          rw [← hU] at hH ⊢
          replace A10 : Hid (Ar U0 b10 16 (List.map (Value.int .u32) ((ql L j).set n0 p0))) := by unfold Hid; rw [hU, List.map_set]; exact A10.out.set n0 l0 _
          replace HM : Hid (Mr w q1 q2 b7 key nonce S U0) := by unfold Hid; rw [hU]; exact HM.out.apart (by omega) (by omega) (by omega) _ _
          clear hU
          refine tk 32 ?_
          try simp only [Act.put, List.setIfInBounds_toArray, List.set_cons_zero, List.set_cons_succ]
          obtain ⟨hc1, hf1⟩ := A10.out.cell n1 l1
          refine rdy 33 (fun K hK => ?_)
          go_simp
          refine hK.out _ _ (hH.set _ _) (fun hH' => ?_)
          clear hK K hH; have hH := hH'; clear hH'; try simp only [List.setIfInBounds_toArray, List.set]
          clear hc1 hf1
          obtain ⟨U1, hU⟩ : ∃ U, U = U0.setCell ⟨b10, n1, none⟩ (.int .u32 p1) := ⟨_, rfl⟩
          rw [← hU] at hH ⊢
          replace A10 : Hid (Ar U1 b10 16 (List.map (Value.int .u32) (((ql L j).set n0 p0).set n1 p1))) := by unfold Hid; rw [hU, List.map_set]; exact A10.out.set n1 l1 _
          replace HM : Hid (Mr w q1 q2 b7 key nonce S U1) := by unfold Hid; rw [hU]; exact HM.out.apart (by omega) (by omega) (by omega) _ _
          clear hU
          refine tk 34 ?_
          try simp only [Act.put, List.setIfInBounds_toArray, List.set_cons_zero, List.set_cons_succ]
          obtain ⟨hc2, hf2⟩ := A10.out.cell n2 l2
          refine rdy 35 (fun K hK => ?_)
          go_simp
          refine hK.out _ _ (hH.set _ _) (fun hH' => ?_)
          clear hK K hH; have hH := hH'; clear hH'; try simp only [List.setIfInBounds_toArray, List.set]
          clear hc2 hf2
          obtain ⟨U2, hU⟩ : ∃ U, U = U1.setCell ⟨b10, n2, none⟩ (.int .u32 p2) := ⟨_, rfl⟩
          rw [← hU] at hH ⊢
          replace A10 : Hid (Ar U2 b10 16 (List.map (Value.int .u32) ((((ql L j).set n0 p0).set n1 p1).set n2 p2))) := by unfold Hid; rw [hU, List.map_set]; exact A10.out.set n2 l2 _
          replace HM : Hid (Mr w q1 q2 b7 key nonce S U2) := by unfold Hid; rw [hU]; exact HM.out.apart (by omega) (by omega) (by omega) _ _
          clear hU
          refine tk 36 ?_
          try simp only [Act.put, List.setIfInBounds_toArray, List.set_cons_zero, List.set_cons_succ]
          obtain ⟨hc3, hf3⟩ := A10.out.cell n3 l3
          refine rdy 37 (fun K hK => ?_)
          go_simp
          refine hK.out _ _ (hH.set _ _) (fun hH' => ?_)
          clear hK K hH; have hH := hH'; clear hH'; try simp only [List.setIfInBounds_toArray, List.set]
          clear hc3 hf3
          obtain ⟨U3, hU⟩ : ∃ U, U = U2.setCell ⟨b10, n3, none⟩ (.int .u32 p3) := ⟨_, rfl⟩
          rw [← hU] at hH ⊢
          replace A10 : Hid (Ar U3 b10 16 (List.map (Value.int .u32) (((((ql L j).set n0 p0).set n1 p1).set n2 p2).set n3 p3))) := by unfold Hid; rw [hU, List.map_set]; exact A10.out.set n3 l3 _
          replace HM : Hid (Mr w q1 q2 b7 key nonce S U3) := by unfold Hid; rw [hU]; exact HM.out.apart (by omega) (by omega) (by omega) _ _
          clear hU
          refine wpAnyH_done (by kernel_rfl) ?_ _
          refine NoPanic.normal ?_
          clear hH
          replace A10 : Hid (Ar U3 b10 16 (List.map (Value.int .u32) (ql L (j + 1)))) := by
           have h := A10.out
           have e := HQ.out
           rw [HY0.out, HY1.out, HY2.out, HY3.out] at e
           rw [H0.out, H1.out, H2.out, H3.out] at h e
           unfold Hid
           rw [ql]
           unfold qs
           rw [← e]
           exact h
          clear HQ HY0 HY1 HY2 HY3
          go_wp2
          go_roundw
          case rel => exact ⟨j + 1, by omega, by go_num, HM, A10⟩
          case measure => simp [intOf]; omega
        ·have e : j = 8 := by omega
         subst e
         go_wp2
         go_roundw
         case rel => exact ⟨k + 1, cr (dn L), by omega, by go_num, by unfold Hid; rw [mx, ← HL.out], cr_w (dn_w HWL.out), HM, A10⟩
         case measure => simp [intOf]; omega
      ·have e : k = 10 := by omega
       subst e
       have h10 : Hid (L = mx S 10) := HL
       clear HL hk hlt
       go_wp2
       obtain ⟨W4, hW4⟩ : ∃ W, W = wr.alloc (.cells zb64 90) := ⟨_, rfl⟩
       obtain ⟨b14, hb14⟩ : ∃ b, b = wr.heap.size := ⟨_, rfl⟩
       rw [← hW4, ← hb14]
       have k6 : b10 < b14 := by rw [hb14]; exact A10.out.lt (by decide)
       have hbl : Below wr.heap.size wr W4 := by rw [hW4]; exact bel1 _ _
       have HO : Hid (Mo2 w q1 q2 b7 b10 b14 key nonce S L (ob L S 0) W4) := ⟨HM.out.later hbl, A10.out.later hbl, (fun j v hv => by simp [ob] at hv), by rw [hW4, hb14]; exact there_new _ 64 _ rfl _⟩
       clear HM A10 hW4 hb14 hbl
       go_loopw [15] (fun i wo => ∃ k : Nat, k ≤ 16 ∧ i = .int .i64 k ∧ Hid (Mo2 w q1 q2 b7 b10 b14 key nonce S L (ob L S k) wo)) (fun i _ => 16 - (intOf i).toNat)
       case atStart => exact ⟨0, by decide, rfl, HO⟩
       case round =>
        clear HO
        obtain ⟨k, hk, rfl, HO⟩ := hrel
        by_cases hlt : k < 16
        ·have g1 : (k : Int) < 16 := by omega
         obtain ⟨x, cx, -, ⟨x0, x1⟩, HX⟩ := ar_word HO.out.mix HWL.out k hlt
         obtain ⟨y, cy, -, ⟨y0, y1⟩, HY⟩ := ar_word HO.out.mr.ar HWS.out k hlt
         obtain ⟨z, hz⟩ : ∃ z, z = (x + y) % 4294967296 := ⟨_, rfl⟩
         have hwz : IntKind.u32.wrap (x + y) = z := by rw [IntKind.wrap_u32', hz]
         have hzw : W32 z := by rw [hz]; exact ad_w x y
         have HZ : Hid (z = ad L[k]! S[k]!) := by unfold Hid; rw [hz, ← HX.out, ← HY.out]; rfl
         clear hz HX HY
         have xu : ∀ u, Ext wr u → u.cell? ⟨b10, k, none⟩ = some (.int .u32 x) := fun u hu => hu.cell cx
         have yu : ∀ u, Ext wr u → u.cell? ⟨b7, k, none⟩ = some (.int .u32 y) := fun u hu => hu.cell cy
         clear cx cy
         go_wp2
         refine wp_region_noPanic ?_
         refine wp_region_held_drew (S := Ext wr) (by kernel_rfl) (Ext.refl _).drew (fun hH => ?_)
         change wpAnyH _ _ _ _ _ _ #[false, false, false, false, false, false, false, false, false] _ _
         refine tk 0 ?_
         try simp only [Act.put, List.setIfInBounds_toArray, List.set_cons_zero, List.set_cons_succ]
         refine tk 1 ?_
         try simp only [Act.put, List.setIfInBounds_toArray, List.set_cons_zero, List.set_cons_succ]
         refine tk 2 ?_ (hy := by (intro u hu; (have hx := xu u hu; go_simp) <;> with_reducible rfl))
         try simp only [Act.put, List.setIfInBounds_toArray, List.set_cons_zero, List.set_cons_succ]
         refine tk 3 ?_
         try simp only [Act.put, List.setIfInBounds_toArray, List.set_cons_zero, List.set_cons_succ]
         refine tk 4 ?_
         try simp only [Act.put, List.setIfInBounds_toArray, List.set_cons_zero, List.set_cons_succ]
         refine tk 5 ?_ (hy := by (intro u hu; (have hx := yu u hu; go_simp) <;> with_reducible rfl))
         try simp only [Act.put, List.setIfInBounds_toArray, List.set_cons_zero, List.set_cons_succ]
         refine tk 6 ?_
         try simp only [Act.put, List.setIfInBounds_toArray, List.set_cons_zero, List.set_cons_succ]
         clear xu yu hwz
         refine rdy 7 (fun K hK => ?_)
         go_simp
         refine (refput32_g z _ hzw).mono ?_
         rintro e V ⟨g, rfl, hRd, hgg, hb⟩
         refine hK.out _ _ (hH.trans hb) (fun hH' => ?_)
         clear hK K hH; have hH := hH'; clear hH'; try simp only [List.setIfInBounds_toArray, List.set]
         refine tk 8 ?_
         try simp only [Act.put, List.setIfInBounds_toArray, List.set_cons_zero, List.set_cons_succ]
         refine wpAnyH_done (by kernel_rfl) ?_ _
         refine NoPanic.normal ?_
         have kg : b14 < g := Nat.lt_of_lt_of_le (there_lt HO.out.out (by decide)) hgg
         have HRd : Hid (Rd V (some ⟨g, 0, none⟩) 4 4 (lay 4 z)) := hRd
         replace HO := hidp (HO.out.later hH)
         clear hH hRd hgg
         clear hb
         go_wp2
         go_loopw [17] (fun i wo => ∃ j : Nat, j ≤ 4 ∧ i = .int .i64 j ∧ Hid (Mo2 w q1 q2 b7 b10 b14 key nonce S L (ob L S k ++ (lay 4 z).take j) wo) ∧ Hid (Rd wo (some ⟨g, 0, none⟩) 4 4 (lay 4 z))) (fun i _ => 4 - (intOf i).toNat)
         case atStart => exact ⟨0, by decide, rfl, by unfold Hid; rw [List.take_zero, List.append_nil]; exact HO.out, HRd⟩
         case round =>
          clear HO HRd
          obtain ⟨j, hj, rfl, HO, HRd⟩ := hrel
          by_cases hlt2 : j < 4
          ·have g2 : (j : Int) < 4 := by omega
           obtain ⟨b', o', hbo, hcx⟩ := HRd.out.cell (by decide)
           cases hbo
           have cb := hcx j hlt2
           rw [Nat.zero_add] at cb
           obtain ⟨v, hv⟩ : ∃ v, v = (lay 4 z)[j]?.getD 0 := ⟨_, rfl⟩
           rw [← hv] at cb
           have HV : Hid ((lay 4 z).take (j + 1) = (lay 4 z).take j ++ [v]) := by
            have hjl : j < (lay 4 z).length := by rw [lay_length]; exact hlt2
            unfold Hid
            rw [List.take_succ_eq_append_getElem hjl, hv, List.getElem?_eq_getElem hjl, Option.getD_some]
           have hvb : 0 ≤ v ∧ v ≤ 255 := by rw [hv]; exact (lay_byt 4 z).at j
           clear hv hcx
           have g3 : 4 * (k : Int) + j < 64 := by omega
           have g4 : 0 ≤ 4 * (k : Int) + j := by omega
           have t1 : (4 * (k : Int) + j).toNat = 4 * k + j := by omega
           obtain ⟨cc, hcc, hff⟩ := there_cell HO.out.out (4 * k + j) (by omega)
           go_wp2
           go_roundw
           case rel => first
            | exact ⟨j + 1, by omega, by go_num, by unfold Hid; rw [HV.out, ← List.append_assoc]; exact HO.out.more (by omega) (by omega) (by omega) (by omega) (4 * k + j) (by omega) (by rw [List.length_append, ob_len, List.length_take, lay_length]; omega) v, by unfold Hid; exact HRd.out.elseCell (by omega) _ _⟩
            | ((repeat apply Exists.intro); exact ⟨⟨j + 1, by omega, by go_num, by unfold Hid; rw [HV.out, ← List.append_assoc]; exact HO.out.more (by omega) (by omega) (by omega) (by omega) (4 * k + j) (by omega) (by rw [List.length_append, ob_len, List.length_take, lay_length]; omega) v, by unfold Hid; exact HRd.out.elseCell (by omega) _ _⟩, rfl⟩)
           case measure => simp [intOf]; omega
          ·have e : j = 4 := by omega
           subst e
           go_wp2
           go_roundw
           case rel => first
            | exact ⟨k + 1, by omega, by go_num, by unfold Hid; rw [ob, ← HZ.out]; have := HO.out; rwa [List.take_of_length_le (by rw [lay_length]; exact Nat.le_refl _)] at this⟩
            | ((repeat apply Exists.intro); exact ⟨⟨k + 1, by omega, by go_num, by unfold Hid; rw [ob, ← HZ.out]; have := HO.out; rwa [List.take_of_length_le (by rw [lay_length]; exact Nat.le_refl _)] at this⟩, rfl⟩)
           case measure => simp [intOf]; omega
        ·have e : k = 16 := by omega
         subst e
         obtain ⟨B, HBk⟩ : ∃ B, Hid (B = blk key count nonce) := ⟨_, rfl⟩
         have hB : Bn 64 B := by rw [HBk.out]; exact blk_bn _ _ _
         have HR : Hid (wr.rangeAt b14 0 (List.map (Value.int .u8) B)) := by unfold Hid; rw [HBk.out]; unfold blk; rw [← HS.out, ← h10.out]; exact HO.out.rng
         have HBn : Hid (Bn 64 B) := hB
         clear hB
         obtain ⟨hlen, hone, hi⟩ := bn64_cells HBn.out
         have hth := HO.out.mr.res
         obtain ⟨cs, HC⟩ : ∃ cs, Hid ((List.map (Value.int .u8) B) = cs) := ⟨_, rfl⟩
         rw [HC.out] at hlen hone hi HR
         go_wp2_with (first
          | (refine wpList_load_mid rfl 90 (.tmp 14) rfl b14 0 rfl cs _ HR.out Tryz.underlying90 rfl hi ?_)
          | (refine wpList_store_mid rfl 90 (.tmp 6) (.tmp 123) rfl q2 0 cs.toArray rfl rfl (by simpa [hlen] using hth) (by simpa using hi) (all_oneCell_toArray hone) ?_))
         have HR2 : Hid ((wr.setCells q2 0 cs).rangeAt q2 0 cs) := World.rangeAt_setCells_same _ _ _ _ (by rw [hlen]; exact hth)
         have hld := run_loadVar_mid (P := Tryz.prog) _ _ 0 90 _ _ HR2.out Tryz.underlying90 rfl hi
         exact bodyPost_ret (v := .agg cs.toArray) (by simp [results, Tryz.results69]; exact hld) rfl ⟨B, by rw [HC.out], HBk, HBn.out, below_setCells _ (by omega) _ _ _ HO.out.mr.bel⟩
end Go.Proofs.YtmibjgkakolhiaaGreatDoor
