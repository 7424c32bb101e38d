/-
  Several texts of one's own, laid together. No statement of the seat is proved here.
-/
import Derived.Test.YtlnbjehimabaiaaGreatDoorPk1
import Derived.Test.YtlnbjehimabaiaaGreatDoorQDown
import Derived.Test.YtlnbjehimabaiaaGreatDoorPk3
/-
 What chacha's fill and start do: the words of the key and the nonce, and the block ahead of all mixing. No statement of the seat is proved here.
-/
namespace Go.Proofs.YtlnbjehimabaiaaGreatDoor
open Go.RowKit
set_option maxRecDepth 8000

/-- The word that stands i words in. -/
def wat (l : List Int) (i : Nat) : Int := got 4 (l.drop (4 * i))
theorem got_w (l : List Int) (h : Byt l) : W32 (got 4 l) := by
 unfold got
 split
 ·rename_i hl
  obtain ⟨h0, h1⟩ := leN_w (l.take 4) (h.take 4)
  rw [List.length_take, Nat.min_eq_left hl] at h1
  exact ⟨h0, h1⟩
 ·exact ⟨by decide, by decide⟩
theorem wat_w {l : List Int} (h : Byt l) (i : Nat) : W32 (wat l i) := got_w _ (h.drop _)
/-- So many words are written. -/
def fw (L : List Int) (off : Nat) (l : List Int) : Nat → List Int
 | 0 => L
 | k + 1 => (fw L off l k).set (off + k) (wat l k)
theorem fw_len (L : List Int) (off : Nat) (l : List Int) : ∀ k, (fw L off l k).length = L.length
 | 0 => rfl
 | k + 1 => by rw [fw, List.length_set, fw_len L off l k]
theorem fw_w {L : List Int} (hL : W16 L) (off : Nat) {l : List Int} (hl : Byt l) : ∀ k, W16 (fw L off l k)
 | 0 => hL
 | k + 1 => (fw_w hL off hl k).set _ (wat_w hl k)
set_option maxHeartbeats 1000000 in
theorem fill_c (bo off n m co : Nat) (L : List Int) (b o len cap : Nat) (l : List Int) (w : World) (hL : L.length = m) (hA : Ar w bo m (List.map (Value.int .u32) L)) (hn : off + n ≤ m) (hR : Rd w (some ⟨b, o, none⟩) len cap l) (hl : 4 * n ≤ len) (hlen : len ≤ 32) (hne : b ≠ bo) :
  Calls Tryz.prog 168 #[.slice (some ⟨bo, off, none⟩) n co, .slice (some ⟨b, o, none⟩) len cap] w fun e w' => e = .returned (.tuple #[]) ∧ Ar w' bo m (List.map (Value.int .u32) (fw L off l n)) ∧ ExtB bo w w' := by
 have HA : Hid (Ar w bo m (List.map (Value.int .u32) L)) := hA
 have HR : Hid (Rd w (some ⟨b, o, none⟩) len cap l) := hR
 have HL : Hid (L.length = m) := hL
 have hcl := hR.hle
 clear hA hR hL
 go_enter Tryz.func168, Tryz.ntmps168
 go_wp2
 go_loopw [7] (fun i wr => ∃ k : Nat, k ≤ n ∧ i = .int .i64 k ∧ Hid (Ar wr bo m (List.map (Value.int .u32) (fw L off l k))) ∧ Hid (ExtB bo w wr)) (fun i _ => n - (intOf i).toNat)
 case atStart => exact ⟨0, Nat.zero_le _, rfl, HA, ExtB.refl _ _⟩
 case round =>
  obtain ⟨k, hk, rfl, HA', HB'⟩ := hrel
  by_cases hlt : k < n
  ·have g1 : (k : Int) < n := by omega
   have g2 : 4 * (k : Int) ≤ len := by omega
   have hr : Rd wr (some ⟨b, o, none⟩) len cap l := HR.out.extb HB'.out hne
   have HR' : Hid (Rd wr (some ⟨b, o + 4 * k, none⟩) (len - 4 * k) (cap - 4 * k) (l.drop (4 * k))) := hr.from (4 * k) (by omega) _ _ rfl (by omega)
   obtain ⟨hc1, hf1⟩ := HA'.out.cell (off + k) (by omega)
   clear hr
   go_wp2_with fail
   refine (get32_any _ _ _ _ _ HR'.out (by omega)).mono ?_
   rintro e w' ⟨rfl, hw⟩
   rw [hw]
   clear hw w' HR'
   obtain ⟨x, HX⟩ : ∃ x, Hid (x = wat l k) := ⟨_, rfl⟩
   rw [show got 4 (l.drop (4 * k)) = x from HX.out.symm]
   have hx : W32 x := by rw [HX.out]; exact wat_w HR.out.byt k
   obtain ⟨x0, x1⟩ := hx
   go_wp2
   go_roundw
   case rel => exact ⟨k + 1, by omega, by go_num, by
    unfold Hid
    rw [fw, List.map_set, ← HX.out]
    exact HA'.out.set (off + k) (by omega) _, HB'.out.set _ _⟩
   case measure => simp [intOf]; omega
  ·have e : k = n := by omega
   subst e
   go_wp2
   go_end0
   exact ⟨rfl, HA'.out, HB'.out⟩

def iv0 : List Int := [1634760805, 857760878, 2036477234, 1797285236, 0, 0, 0, 0, 0, 0, 0, 0, 0, 0, 0, 0]
theorem w32_dec (l : List Int) (h : l.all (fun x => decide (0 ≤ x) && decide (x < 4294967296)) = true) : ∀ x ∈ l, W32 x := by
 intro x hx
 have := List.all_eq_true.1 h x hx
 simp only [Bool.and_eq_true, decide_eq_true_eq] at this
 exact this
theorem iv0_w : W16 iv0 := ⟨rfl, w32_dec _ (by decide)⟩
/-- The block ahead of all mixing. -/
def st (key : List Int) (count : Int) (nonce : List Int) : List Int := fw ((fw iv0 4 key 8).set 12 count) 13 nonce 3
theorem st_w {key nonce : List Int} {count : Int} (hk : Byt key) (hc : W32 count) (hn : Byt nonce) : W16 (st key count nonce) := fw_w ((fw_w iv0_w 4 hk 8).set 12 hc) 13 hn 3

set_option maxHeartbeats 4000000 in
theorem start_c (key : List Int) (count : Int) (nonce : List Int) (hk : Bn 32 key) (hc : W32 count) (hn : Bn 12 nonce) (w : World) :
  Calls Tryz.prog 146 #[(.agg (List.map (Value.int .u8) key).toArray), .int .u32 count, (.agg (List.map (Value.int .u8) nonce).toArray)] w fun e w' => ∃ L, e = .returned (.agg (List.map (Value.int .u32) L).toArray) ∧ Hid (L = st key count nonce) ∧ W16 L ∧ Below w.heap.size w w' := by
 have HK : Hid (Bn 32 key) := hk
 have HN : Hid (Bn 12 nonce) := hn
 have HW : Hid (W16 (st key count nonce)) := st_w hk.byt hc hn.byt
 have HWC : Hid (W32 count) := hc
 clear hk hn hc
 go_enter Tryz.func146, Tryz.ntmps146
 go_upto_region 1 with fail
 have AK : Hid (Ar (((w.alloc (.cells (List.map (Value.int .u8) key).toArray 30)).alloc (.cells (List.map (Value.int .u8) nonce).toArray 91)).alloc (.cells zw16 185)) w.heap.size 32 (List.map (Value.int .u8) key)) := (ar_box w _ 32 HK.out.map_len _).later (bel2 _ _ _)
 have AN : Hid (Ar (((w.alloc (.cells (List.map (Value.int .u8) key).toArray 30)).alloc (.cells (List.map (Value.int .u8) nonce).toArray 91)).alloc (.cells zw16 185)) (w.heap.size + 1) 12 (List.map (Value.int .u8) nonce)) := by have := (ar_box (w.alloc (.cells (List.map (Value.int .u8) key).toArray 30)) _ 12 HN.out.map_len 91).later (bel1 _ (.cells zw16 185)); simpa [Hid] using this
 have HD : Hid ((((w.alloc (.cells (List.map (Value.int .u8) key).toArray 30)).alloc (.cells (List.map (Value.int .u8) nonce).toArray 91)).alloc (.cells zw16 185)).there (w.heap.size + 1 + 1) 0 16) := by have := there_new ((w.alloc (.cells (List.map (Value.int .u8) key).toArray 30)).alloc (.cells (List.map (Value.int .u8) nonce).toArray 91)) 16 zw16 rfl 185; simpa [Hid] using this
 have HB : Hid (Below w.heap.size w (((w.alloc (.cells (List.map (Value.int .u8) key).toArray 30)).alloc (.cells (List.map (Value.int .u8) nonce).toArray 91)).alloc (.cells zw16 185))) := bel3 _ _ _ _
 generalize ((w.alloc (.cells (List.map (Value.int .u8) key).toArray 30)).alloc (.cells (List.map (Value.int .u8) nonce).toArray 91)).alloc (.cells zw16 185) = W0 at *
 have k1 : w.heap.size < w.heap.size + 1 := by omega
 have k2 : w.heap.size < w.heap.size + 1 + 1 := by omega
 have k3 : w.heap.size + 1 < w.heap.size + 1 + 1 := by omega
 generalize w.heap.size + 1 + 1 = q2 at *
 generalize w.heap.size + 1 = q1 at *
 have k4 : q2 < W0.heap.size := there_lt HD.out (by decide)
 obtain ⟨hlen, hone, hi⟩ := w16_cells iv0_w
 have hth := there_new W0 16 zw16 rfl 185
 have A7 : Hid (Ar ((W0.alloc (.cells zw16 185)).setCells W0.heap.size 0 (List.map (Value.int .u32) iv0)) W0.heap.size 16 (List.map (Value.int .u32) iv0)) := ar_var W0 _ 16 rfl _ _ hlen
 have HX : Hid (Below W0.heap.size W0 ((W0.alloc (.cells zw16 185)).setCells W0.heap.size 0 (List.map (Value.int .u32) iv0))) := bel_var _ _ _ _
 go_upto_region 2 with (refine wpList_store_mid rfl 185 (.tmp 7) (.tmp 8) rfl (W0.heap.size) 0 (List.map (Value.int .u32) iv0).toArray rfl rfl (by simpa [hlen] using hth) (by simpa using hi) (all_oneCell_toArray hone) ?_)
 clear hth hlen hone hi
 generalize (W0.alloc (.cells zw16 185)).setCells W0.heap.size 0 (List.map (Value.int .u32) iv0) = W1 at *
 obtain ⟨b7, hs7⟩ : ∃ b, b = W0.heap.size := ⟨_, rfl⟩
 replace AK := hidp (AK.out.later HX.out)
 replace AN := hidp (AN.out.later HX.out)
 replace HD : Hid (W1.there q2 0 16) := there_later HX.out HD.out
 replace HB := hidp (HB.out.trans (Below.mono HX.out HB.out.size))
 clear HX
 rw [← hs7] at A7 k4 ⊢
 clear hs7
 refine wp_region_noPanic ?_
 refine wp_region_held_drew (S := ExtB b7 W1) (by kernel_rfl) (ExtB.refl _ _).drew (fun hH => ?_)
 change wpAnyH _ _ _ _ _ _ #[false, false, false] _ _
 refine tn 0 ?_
 refine tn 1 ?_
 refine rdy 2 (fun K hK => ?_)
 go_simp
 refine (fill_c b7 4 8 16 12 iv0 w.heap.size 0 32 32 key _ rfl A7.out.drew (by decide) (AK.out.drew.rd_all HK.out.byt 32 (by decide)) (by decide) (by decide) (by omega)).mono ?_
 rintro e W2 ⟨rfl, hA, hb⟩
 refine ko hK (ExtB.comp hH hb) fun hH => ?_; clear hK K
 refine wpAnyH_done (by kernel_rfl) ?_ _
 refine NoPanic.normal ?_
 clear hb A7
 obtain ⟨L1, HL1⟩ : ∃ l, Hid (l = fw iv0 4 key 8) := ⟨_, rfl⟩
 have hl1 : W16 L1 := by rw [HL1.out]; exact fw_w iv0_w 4 HK.out.byt 8
 have HW1 : Hid (W16 L1) := hl1
 have A7 : Hid (Ar W2 b7 16 (List.map (Value.int .u32) L1)) := by unfold Hid; rw [HL1.out]; exact hA
 clear hA hl1
 replace AN : Hid (Ar W2 q1 12 (List.map (Value.int .u8) nonce)) := AN.out.extb hH (by omega)
 replace HD : Hid (W2.there q2 0 16) := there_extb hH (by omega) HD.out
 replace HB : Hid (Below w.heap.size w W2) := ExtB.below hH HB.out (by omega)
 clear hH AK
 obtain ⟨x0, c0, f0, r0, HX0⟩ := ar_word A7.out HW1.out 12 (by decide)
 go_upto_region 4 with fail
 have A8 : Hid (Ar (W2.setCell ⟨b7, 12, none⟩ (.int .u32 count)) b7 16 (List.map (Value.int .u32) (L1.set 12 count))) := by unfold Hid; rw [List.map_set]; exact A7.out.set 12 (by decide) _
 replace AN : Hid (Ar (W2.setCell ⟨b7, 12, none⟩ (.int .u32 count)) q1 12 (List.map (Value.int .u8) nonce)) := AN.out.else _ _ (by omega) _
 replace HD : Hid ((W2.setCell ⟨b7, 12, none⟩ (.int .u32 count)).there q2 0 16) := there_set HD.out _ _ _
 replace HB : Hid (Below w.heap.size w (W2.setCell ⟨b7, 12, none⟩ (.int .u32 count))) := HB.out.setCell (p := ⟨b7, 12, none⟩) (by dsimp only; omega) _
 generalize W2.setCell ⟨b7, 12, none⟩ (.int .u32 count) = W3 at *
 have hl3 : (L1.set 12 count).length = 16 := by rw [List.length_set, HW1.out.len]
 clear c0 f0 r0 HX0 A7
 refine wp_region_noPanic ?_
 refine wp_region_held_drew (S := ExtB b7 W3) (by kernel_rfl) (ExtB.refl _ _).drew (fun hH => ?_)
 change wpAnyH _ _ _ _ _ _ #[false, false, false] _ _
 refine tn 0 ?_
 refine tn 1 ?_
 refine rdy 2 (fun K hK => ?_)
 go_simp
 refine (fill_c b7 13 3 16 3 (L1.set 12 count) q1 0 12 12 nonce _ hl3 A8.out.drew (by decide) (AN.out.drew.rd_all HN.out.byt 12 (by decide)) (by decide) (by decide) (by omega)).mono ?_
 rintro e W4 ⟨rfl, hA, hb⟩
 refine ko hK (ExtB.comp hH hb) fun hH => ?_; clear hK K
 refine wpAnyH_done (by kernel_rfl) ?_ _
 refine NoPanic.normal ?_
 clear hb A8
 obtain ⟨L, HL⟩ : ∃ l, Hid (l = st key count nonce) := ⟨_, rfl⟩
 have A7 : Hid (Ar W4 b7 16 (List.map (Value.int .u32) L)) := by unfold Hid; rw [HL.out]; unfold st; rw [← HL1.out]; exact hA
 replace HW : Hid (W16 L) := by unfold Hid; rw [HL.out]; exact HW.out
 clear hA
 replace HD : Hid (W4.there q2 0 16) := there_extb hH (by omega) HD.out
 replace HB : Hid (Below w.heap.size w W4) := ExtB.below hH HB.out (by omega)
 clear hH
 obtain ⟨hlen, hone, hi⟩ := w16_cells HW.out
 generalize hcs : (List.map (Value.int .u32) L) = cs at *
 have HC : Hid ((List.map (Value.int .u32) L) = cs) := hcs
 clear hcs
 go_wp2_with (first
  | (refine wpList_load_mid rfl 185 (.tmp 7) rfl b7 0 rfl cs _ A7.out.rng Tryz.underlying185 rfl hi ?_)
  | (refine wpList_store_mid rfl 185 (.tmp 6) (.tmp 17) rfl q2 0 cs.toArray rfl rfl (by simpa [hlen] using HD.out) (by simpa using hi) (all_oneCell_toArray hone) ?_))
 have HR2 : Hid ((W4.setCells q2 0 cs).rangeAt q2 0 cs) := World.rangeAt_setCells_same _ _ _ _ (by rw [hlen]; exact HD.out)
 have hld := run_loadVar_mid (P := Tryz.prog) _ _ 0 185 _ _ HR2.out Tryz.underlying185 rfl hi
 exact bodyPost_ret (v := .agg cs.toArray) (by simp [results, Tryz.results146]; exact hld) rfl ⟨L, by rw [HC.out], HL, HW.out, below_setCells _ (by omega) _ _ _ HB.out⟩
end Go.Proofs.YtlnbjehimabaiaaGreatDoor
/-
 What chacha's Block does: sixty-four bytes of a key, a count and a nonce. No statement of the seat is proved here.
-/
namespace Go.Proofs.YtlnbjehimabaiaaGreatDoor
open Go.RowKit
set_option maxRecDepth 8000

/-- The words behind k double rounds. -/
def mx (S : List Int) : Nat → List Int
 | 0 => S
 | k + 1 => cr (dn (mx S k))
theorem dn_w {L : List Int} (h : W16 L) : W16 (dn L) := qs_w (qs_w (qs_w (qs_w h _ _ _ _) _ _ _ _) _ _ _ _) _ _ _ _
theorem cr_w {L : List Int} (h : W16 L) : W16 (cr L) := qs_w (qs_w (qs_w (qs_w h _ _ _ _) _ _ _ _) _ _ _ _) _ _ _ _
theorem mx_w {S : List Int} (h : W16 S) : ∀ k, W16 (mx S k)
 | 0 => h
 | k + 1 => cr_w (dn_w (mx_w h k))
/-- The bytes of the first k words, each added to what it was at first. -/
def ob (L S : List Int) : Nat → List Int
 | 0 => []
 | k + 1 => ob L S k ++ lay 4 (ad L[k]! S[k]!)
theorem ob_len (L S : List Int) : ∀ k, (ob L S k).length = 4 * k
 | 0 => rfl
 | k + 1 => by rw [ob, List.length_append, ob_len L S k, lay_length]; omega
theorem ob_byt (L S : List Int) : ∀ k, Byt (ob L S k)
 | 0 => Byt.nil
 | k + 1 => (ob_byt L S k).app (lay_byt _ _)
def blk (key : List Int) (count : Int) (nonce : List Int) : List Int := ob (mx (st key count nonce) 10) (st key count nonce) 16
theorem blk_bn (key : List Int) (count : Int) (nonce : List Int) : Bn 64 (blk key count nonce) := ⟨ob_len _ _ 16, ob_byt _ _ 16⟩
theorem bn64_cells {l : List Int} (h : Bn 64 l) : (List.map (Value.int .u8) l).length = 64 ∧ (∀ v ∈ (List.map (Value.int .u8) l), v.oneCell' = true) ∧ (Tryz.prog.info? 163).map (·.size) = some (List.map (Value.int .u8) l).length :=
 ⟨h.map_len, bytes_oneCell _, by rw [h.map_len]; kernel_rfl⟩
theorem bn12_cells {l : List Int} (h : Bn 12 l) : (List.map (Value.int .u8) l).length = 12 ∧ (∀ v ∈ (List.map (Value.int .u8) l), v.oneCell' = true) ∧ (Tryz.prog.info? 91).map (·.size) = some (List.map (Value.int .u8) l).length :=
 ⟨h.map_len, bytes_oneCell _, by rw [h.map_len]; kernel_rfl⟩
theorem idx_w (L : List Int) (hL : W16 L) (k : Nat) (hk : k < 16) (w : World) : Sem.run Tryz.prog (Instr.index 185 (.agg (List.map (Value.int .u32) L).toArray) (.int .i64 (k : Int))) w = .ok (.int .u32 L[k]!) w := by
 have h2 : k < L.length := by rw [hL.len]; exact hk
 simp [Instr.index, run_underlying Tryz.underlying185, asIntOf, go_sem, hk, List.getElem?_eq_getElem h2]
theorem put32_g (n : Int) (w : World) (h : W32 n) :
  Calls Tryz.prog 145 #[.int .u32 n] w fun e w' => ∃ g, e = .returned (.slice (some ⟨g, 0, none⟩) 4 4) ∧ Hid (w'.rangeAt g 0 ((lay 4 n).map (Value.int .u8))) ∧ Below w.heap.size w w' := by
 refine (put32_any n w h.1 h.2).mono ?_
 rintro e w' ⟨rfl, hr, hb⟩
 refine ⟨_, rfl, fun j v hv => ?_, hb⟩
 obtain ⟨b, off, ha, hc⟩ := hr.cell (by decide)
 cases ha
 have hj : j < 4 := by
  have := (List.getElem?_eq_some_iff.1 hv).1
  simpa [lay_length] using this
 rw [hc j hj]
 rw [List.getElem?_map] at hv
 cases hx : (lay 4 n)[j]? with
 | none => rw [hx] at hv; cases hv
 | some y => rw [hx] at hv; simpa using hv
theorem copy4 (u : World) (b o g : Nat) (n : Int) (dl dc : Nat) (hd : 4 ≤ dl) (hr : u.rangeAt g 0 ((lay 4 n).map (Value.int .u8))) (ht : u.there b o 4) (ty : TypeId) :
  Sem.run Tryz.prog (Builtin.copy_ #[25, 25] ty #[.slice (some ⟨b, o, none⟩) dl dc, .slice (some ⟨g, 0, none⟩) 4 4]) u = .ok (goInt 4) (u.setCells b o ((lay 4 n).map (Value.int .u8))) := by
 have hl : ((lay 4 n).map (Value.int .u8)).length = 4 := by rw [List.length_map, lay_length]
 have := run_copy_cells (P := Tryz.prog) u 25 25 ty 5 b o dl dc ⟨g, 0, none⟩ 4 4 ((lay 4 n).map (Value.int .u8)) Tryz.underlying25 (by kernel_rfl) (by rw [hl]; exact (Nat.min_eq_left hd).symm)
  (fun j v hv => by rw [Addr.add_mid]; exact hr j v hv) (fun j hj => (ht j (by rw [hl] at hj; exact hj)).1) (fun j hj => (ht j (by rw [hl] at hj; exact hj)).2) (bytes_oneCell _)
 rw [hl] at this
 exact this
structure Mb (w : World) (b7 b8 q2 : Nat) (S L : List Int) (u : World) : Prop where
 fst : Ar u b7 16 (List.map (Value.int .u32) S)
 mix : Ar u b8 16 (List.map (Value.int .u32) L)
 res : u.there q2 0 64
 bel : Below w.heap.size w u
theorem Mb.later {w : World} {b7 b8 q2 : Nat} {S L : List Int} {u v : World} (h : Mb w b7 b8 q2 S L u) (hb : Below u.heap.size u v) : Mb w b7 b8 q2 S L v := ⟨h.fst.later hb, h.mix.later hb, there_later hb h.res, h.bel.trans (hb.mono h.bel.size)⟩
theorem Mb.mixed {w : World} {b7 b8 q2 : Nat} {S L : List Int} {u : World} (h : Mb w b7 b8 q2 S L u) (h78 : b7 ≠ b8) (hw : w.heap.size ≤ b8) (L' : List Int) (hL : L'.length = 16) : Mb w b7 b8 q2 S L' (u.setCells b8 0 (List.map (Value.int .u32) L')) :=
 ⟨h.fst.else_cells h78 _ _, Ar.all_set h.mix.all (by rw [List.length_map, hL]), World.there_setCells h.res _ _ _, below_setCells _ hw _ _ _ h.bel⟩
structure Mo (w : World) (b7 b9 q2 : Nat) (S O : List Int) (u : World) : Prop where
 fst : Ar u b7 16 (List.map (Value.int .u32) S)
 rng : u.rangeAt b9 0 (List.map (Value.int .u8) O)
 out : u.there b9 0 64
 res : u.there q2 0 64
 bel : Below w.heap.size w u

set_option maxHeartbeats 4000000 in
theorem block_c (key : List Int) (count : Int) (nonce : List Int) (hk : Bn 32 key) (hc : W32 count) (hn : Bn 12 nonce) (w : World) :
  Calls Tryz.prog 123 #[(.agg (List.map (Value.int .u8) key).toArray), .int .u32 count, (.agg (List.map (Value.int .u8) nonce).toArray)] w fun e w' => ∃ B, e = .returned (.agg (List.map (Value.int .u8) B).toArray) ∧ Hid (B = blk key count nonce) ∧ Bn 64 B ∧ Below w.heap.size w w' := by
 have HK : Hid (Bn 32 key) := hk
 have HN : Hid (Bn 12 nonce) := hn
 have HWC : Hid (W32 count) := hc
 clear hk hn hc
 go_enter Tryz.func123, Tryz.ntmps123
 go_upto_region 1 with fail
 have AK : Hid (Ar (((w.alloc (.cells (List.map (Value.int .u8) key).toArray 30)).alloc (.cells (List.map (Value.int .u8) nonce).toArray 91)).alloc (.cells zb64 163)) w.heap.size 32 (List.map (Value.int .u8) key)) := (ar_box w _ 32 HK.out.map_len _).later (bel2 _ _ _)
 have AN : Hid (Ar (((w.alloc (.cells (List.map (Value.int .u8) key).toArray 30)).alloc (.cells (List.map (Value.int .u8) nonce).toArray 91)).alloc (.cells zb64 163)) (w.heap.size + 1) 12 (List.map (Value.int .u8) nonce)) := by have := (ar_box (w.alloc (.cells (List.map (Value.int .u8) key).toArray 30)) _ 12 HN.out.map_len 91).later (bel1 _ (.cells zb64 163)); simpa [Hid] using this
 have HD : Hid ((((w.alloc (.cells (List.map (Value.int .u8) key).toArray 30)).alloc (.cells (List.map (Value.int .u8) nonce).toArray 91)).alloc (.cells zb64 163)).there (w.heap.size + 1 + 1) 0 64) := by have := there_new ((w.alloc (.cells (List.map (Value.int .u8) key).toArray 30)).alloc (.cells (List.map (Value.int .u8) nonce).toArray 91)) 64 zb64 rfl 163; simpa [Hid] using this
 have HB : Hid (Below w.heap.size w (((w.alloc (.cells (List.map (Value.int .u8) key).toArray 30)).alloc (.cells (List.map (Value.int .u8) nonce).toArray 91)).alloc (.cells zb64 163))) := bel3 _ _ _ _
 generalize ((w.alloc (.cells (List.map (Value.int .u8) key).toArray 30)).alloc (.cells (List.map (Value.int .u8) nonce).toArray 91)).alloc (.cells zb64 163) = W0 at *
 have k1 : w.heap.size < w.heap.size + 1 := by omega
 have k2 : w.heap.size < w.heap.size + 1 + 1 := by omega
 have k3 : w.heap.size + 1 < w.heap.size + 1 + 1 := by omega
 generalize w.heap.size + 1 + 1 = q2 at *
 generalize w.heap.size + 1 = q1 at *
 have k4 : q2 < W0.heap.size := there_lt HD.out (by decide)
 obtain ⟨_, _, hiK⟩ := bn32_cells HK.out
 obtain ⟨_, _, hiN⟩ := bn12_cells HN.out
 go_wp2_with (first
  | (refine wpList_load_mid rfl 30 (.tmp 3) rfl (w.heap.size) 0 rfl (List.map (Value.int .u8) key) _ AK.out.rng Tryz.underlying30 rfl hiK ?_)
  | (refine wpList_load_mid rfl 91 (.tmp 5) rfl q1 0 rfl (List.map (Value.int .u8) nonce) _ AN.out.rng Tryz.underlying91 rfl hiN ?_))
 clear hiK hiN AK AN
 refine (start_c key count nonce HK.out HWC.out HN.out _).mono ?_
 rintro e W1 ⟨S, rfl, HS, hS, hb⟩
 replace HD : Hid (W1.there q2 0 64) := there_later hb HD.out
 replace HB := hidp (HB.out.trans (hb.mono HB.out.size))
 have k5 : W0.heap.size ≤ W1.heap.size := hb.size
 clear hb
 replace k4 : q2 < W1.heap.size := by omega
 clear k5
 have HWS : Hid (W16 S) := hS
 clear hS
 obtain ⟨hlen, hone, hi⟩ := w16_cells HWS.out
 generalize hcs : (List.map (Value.int .u32) S) = cs at *
 have HC : Hid ((List.map (Value.int .u32) S) = cs) := hcs
 clear hcs
 have hth := there_new W1 16 zw16 rfl 185
 have A7 : Hid (Ar ((W1.alloc (.cells zw16 185)).setCells W1.heap.size 0 cs) W1.heap.size 16 cs) := ar_var W1 _ 16 rfl _ _ hlen
 have HX : Hid (Below W1.heap.size W1 ((W1.alloc (.cells zw16 185)).setCells W1.heap.size 0 cs)) := bel_var _ _ _ _
 go_upto_region 2 with (refine wpList_store_mid rfl 185 (.tmp 7) (.tmp 15) rfl (W1.heap.size) 0 cs.toArray rfl rfl (by simpa [hlen] using hth) (by simpa using hi) (all_oneCell_toArray hone) ?_)
 clear hth
 generalize (W1.alloc (.cells zw16 185)).setCells W1.heap.size 0 cs = W2 at *
 obtain ⟨b7, hs7⟩ : ∃ b, b = W1.heap.size := ⟨_, rfl⟩
 replace HD : Hid (W2.there q2 0 64) := there_later HX.out HD.out
 replace HB := hidp (HB.out.trans (Below.mono HX.out HB.out.size))
 clear HX
 rw [← hs7] at A7 k4 ⊢
 clear hs7
 have k5 : b7 < W2.heap.size := A7.out.lt (by decide)
 have hth := there_new W2 16 zw16 rfl 185
 have A8 : Hid (Ar ((W2.alloc (.cells zw16 185)).setCells W2.heap.size 0 cs) W2.heap.size 16 cs) := ar_var W2 _ 16 rfl _ _ hlen
 have HX : Hid (Below W2.heap.size W2 ((W2.alloc (.cells zw16 185)).setCells W2.heap.size 0 cs)) := bel_var _ _ _ _
 go_upto_region 3 with (first
  | (refine wpList_load_mid rfl 185 (.tmp 7) rfl b7 0 rfl cs _ A7.out.rng Tryz.underlying185 rfl hi ?_)
  | (refine wpList_store_mid rfl 185 (.tmp 8) (.tmp 16) rfl (W2.heap.size) 0 cs.toArray rfl rfl (by simpa [hlen] using hth) (by simpa using hi) (all_oneCell_toArray hone) ?_))
 clear hth
 generalize (W2.alloc (.cells zw16 185)).setCells W2.heap.size 0 cs = W3 at *
 obtain ⟨b8, hs8⟩ : ∃ b, b = W2.heap.size := ⟨_, rfl⟩
 replace HD : Hid (W3.there q2 0 64) := there_later HX.out HD.out
 replace A7 := hidp (A7.out.later HX.out)
 replace HB := hidp (HB.out.trans (Below.mono HX.out HB.out.size))
 clear HX
 rw [← hs8] at A8 k5 ⊢
 clear hs8
 have HC' := HC.out
 subst HC'
 clear hlen hone hi
 have HM : Hid (Mb w b7 b8 q2 S S W3) := ⟨A7.out, A8.out, HD.out, HB.out⟩
 clear HD A7 A8 HB HC
 go_wp2
 go_loopw [17] (fun i wr => ∃ (k : Nat) (L : List Int), k ≤ 10 ∧ i = .int .i64 k ∧ Hid (L = mx S k) ∧ Hid (W16 L) ∧ Hid (Mb w b7 b8 q2 S L wr)) (fun i _ => 10 - (intOf i).toNat)
 case atStart => exact ⟨0, S, by decide, rfl, rfl, HWS, HM⟩
 case round =>
  clear HM
  obtain ⟨k, L, hk, rfl, HL, HWL, HM⟩ := hrel
  by_cases hlt : k < 10
  ·have g1 : (k : Int) < 10 := by omega
   obtain ⟨_, _, hi⟩ := w16_cells HWL.out
   go_wp2_with (refine wpList_load_mid rfl 185 (.tmp 8) rfl b8 0 rfl (List.map (Value.int .u32) L) _ HM.out.mix.rng Tryz.underlying185 rfl hi ?_)
   clear hi
   refine (down_c L HWL.out _).mono ?_
   rintro e V1 ⟨L1, rfl, HL1, w1, hb⟩
   replace HM := hidp (HM.out.later hb)
   have HW1 : Hid (W16 L1) := w1
   clear hb w1
   go_wp2_with fail
   refine (crossed_c L1 HW1.out _).mono ?_
   rintro e V2 ⟨L2, rfl, HL2, w2, hb⟩
   replace HM := hidp (HM.out.later hb)
   have HW2 : Hid (W16 L2) := w2
   clear hb w2
   obtain ⟨hlen, hone, hi⟩ := w16_cells HW2.out
   have HM2 : Hid (Mb w b7 b8 q2 S L2 (V2.setCells b8 0 (List.map (Value.int .u32) L2))) := HM.out.mixed (by omega) (by omega) L2 HW2.out.len
   have hth := HM.out.mix.all
   generalize hcs : (List.map (Value.int .u32) L2) = cs at *
   have HC : Hid ((List.map (Value.int .u32) L2) = cs) := hcs
   clear hcs
   go_wp2_with (refine wpList_store_mid rfl 185 (.tmp 8) (.tmp 21) rfl b8 0 cs.toArray rfl rfl (by simpa [hlen] using hth) (by simpa using hi) (all_oneCell_toArray hone) ?_)
   clear hth
   go_roundw
   case rel => exact ⟨k + 1, L2, by omega, by go_num, by unfold Hid; rw [mx, ← HL.out, ← HL1.out, ← HL2.out], HW2, by first | exact HM2 | (unfold Hid; simpa using HM2.out)⟩
   case measure => simp [intOf]; omega
  ·have e : k = 10 := by omega
   subst e
   have h10 : Hid (L = mx S 10) := HL
   clear HL hk hlt
   have HT : Hid ((wr.alloc (.cells zb64 163)).there wr.heap.size 0 64) := there_new _ 64 _ rfl _
   have k6 : b8 < wr.heap.size := HM.out.mix.lt (by decide)
   replace HM : Hid (Mb w b7 b8 q2 S L (wr.alloc (.cells zb64 163))) := HM.out.later (bel1 _ _)
   obtain ⟨_, _, hi⟩ := w16_cells HWL.out
   go_wp2_with (refine wpList_load_mid rfl 185 (.tmp 8) rfl b8 0 rfl (List.map (Value.int .u32) L) _ HM.out.mix.rng Tryz.underlying185 rfl hi ?_)
   clear hi
   generalize wr.alloc (.cells zb64 163) = W4 at *
   generalize wr.heap.size = b9 at *
   have HO : Hid (Mo w b7 b9 q2 S (ob L S 0) W4) := ⟨HM.out.fst, (fun j v hv => by simp [ob] at hv), HT.out, HM.out.res, HM.out.bel⟩
   clear HM HT
   go_loopw [24] (fun i wo => ∃ k : Nat, k ≤ 16 ∧ i = .int .i64 k ∧ Hid (Mo w b7 b9 q2 S (ob L S k) wo)) (fun i _ => 16 - (intOf i).toNat)
   case atStart => exact ⟨0, by decide, rfl, HO⟩
   case round =>
    clear HO
    obtain ⟨k, hk, rfl, HO⟩ := hrel
    by_cases hlt : k < 16
    ·have g1 : (k : Int) < 16 := by omega
     have hix := idx_w L HWL.out k hlt
     obtain ⟨x, HX⟩ : ∃ x, Hid (x = L[k]!) := ⟨_, rfl⟩
     rw [← HX.out] at hix
     have hx : W32 x := by rw [HX.out]; exact getW HWL.out.wd k
     obtain ⟨x0, x1⟩ := hx
     obtain ⟨y, cy, fy, ⟨y0, y1⟩, HY⟩ := ar_word HO.out.fst HWS.out k hlt
     go_wp2
     clear hix
     obtain ⟨z, hz⟩ : ∃ z, z = (x + y) % 4294967296 := ⟨_, rfl⟩
     have hwz : IntKind.u32.wrap (x + y) = z := by rw [IntKind.wrap_u32', hz]
     have hzw : W32 z := by rw [hz]; exact ad_w x y
     have HZ : Hid (z = ad L[k]! S[k]!) := by unfold Hid; rw [hz, ← HX.out, ← HY.out]; rfl
     clear hz
     have hw4 : IntKind.i64.wrap (4 * (k : Int)) = 4 * k := by rw [IntKind.wrap_i64]; omega
     have g2 : 4 * (k : Int) ≤ 64 := by omega
     have g3 : 0 ≤ 4 * (k : Int) := by omega
     have xu : ∀ u, ExtB b9 wr u → u.cell? ⟨b7, k, none⟩ = some (.int .u32 y) := fun u hu => hu.cell (by omega) cy
     have htn : (4 * (k : Int)).toNat = 4 * k := by omega
     have hn64 : ¬ 64 = 4 * k := by omega
     refine wp_region_noPanic ?_
     refine wp_region_held_drew (S := ExtB b9 wr) (by kernel_rfl) (ExtB.refl _ _).drew (fun hH => ?_)
     change wpAnyH _ _ _ _ _ _ #[false, false, false, false, false, false, false, false, false, false] _ _
     refine tn 0 ?_
     refine tn 1 ?_
     refine tn 2 ?_
     refine tn 3 ?_
     refine tn 4 ?_
     refine tn 5 ?_
     refine tn 6 ?_ (hy := by (intro u hu; (have hxu := xu u hu; go_simp) <;> with_reducible rfl))
     refine tn 7 ?_
     clear xu hwz
     refine rdy 8 (fun K hK => ?_)
     go_simp
     refine (put32_g z _ hzw).mono ?_
     rintro e V ⟨g, rfl, HG, hb⟩
     refine ko hK (hH.trans hb) fun hH => ?_; clear hK K
     try simp only [htn, if_neg hn64]
     replace hb : Below wr.heap.size wr V := (Below.refl _ _).drew.trans (hb.mono (Nat.le_refl _))
     have HO' : Hid (Mo w b7 b9 q2 S (ob L S k) V) := ⟨HO.out.fst.later hb, range_later hb HO.out.rng, there_later hb HO.out.out, there_later hb HO.out.res, HO.out.bel.trans (hb.mono HO.out.bel.size)⟩
     have HP : Hid (Mo w b7 b9 q2 S (ob L S (k + 1)) (V.setCells b9 (4 * k) (List.map (Value.int .u8) (lay 4 z)))) := ⟨HO'.out.fst.else_cells (by omega) _ _, by rw [ob, ← HZ.out, List.map_append]; exact range_more HO'.out.rng (by rw [List.length_map, ob_len]) 64 HO'.out.out (by rw [List.length_map, lay_length]; omega), World.there_setCells HO'.out.out _ _ _, World.there_setCells HO'.out.res _ _ _, below_setCells _ (by omega) _ _ _ HO'.out.bel⟩
     have hcp := fun ty => copy4 V b9 (4 * k) g z (64 - 4 * k) (64 - 4 * k) (by omega) HG.out (there_part HO'.out.out (4 * k) 4 (by omega)) ty
     clear hb HO HO'
     refine rdy 9 (fun K hK => ?_)
     go_simp
     refine ko hK (extB_setCells _ _ _ hH) fun hH => ?_; clear hK K
     clear hcp hH HG
     refine wpAnyH_done (by kernel_rfl) ?_ _
     refine NoPanic.normal ?_
     generalize V.setCells b9 (4 * k) (List.map (Value.int .u8) (lay 4 z)) = V' at *
     clear htn hn64 hw4 g2 g3
     go_wp2
     go_roundw
     case rel => exact ⟨k + 1, by omega, by go_num, HP⟩
     case measure => simp [intOf]; omega
    ·have e : k = 16 := by omega
     subst e
     obtain ⟨B, HBk⟩ : ∃ B, Hid (B = blk key count nonce) := ⟨_, rfl⟩
     have hB : Bn 64 B := by rw [HBk.out]; exact blk_bn _ _ _
     have HR : Hid (wr.rangeAt b9 0 (List.map (Value.int .u8) B)) := by unfold Hid; rw [HBk.out]; unfold blk; rw [← HS.out, ← h10.out]; exact HO.out.rng
     have HBn : Hid (Bn 64 B) := hB
     clear hB
     obtain ⟨hlen, hone, hi⟩ := bn64_cells HBn.out
     have hth := HO.out.res
     generalize hcs : (List.map (Value.int .u8) B) = cs at *
     have HC : Hid ((List.map (Value.int .u8) B) = cs) := hcs
     clear hcs
     go_wp2_with (first
      | (refine wpList_load_mid rfl 163 (.tmp 9) rfl b9 0 rfl cs _ HR.out Tryz.underlying163 rfl hi ?_)
      | (refine wpList_store_mid rfl 163 (.tmp 6) (.tmp 39) rfl q2 0 cs.toArray rfl rfl (by simpa [hlen] using hth) (by simpa using hi) (all_oneCell_toArray hone) ?_))
     have HR2 : Hid ((wr.setCells q2 0 cs).rangeAt q2 0 cs) := World.rangeAt_setCells_same _ _ _ _ (by rw [hlen]; exact hth)
     have hld := run_loadVar_mid (P := Tryz.prog) _ _ 0 163 _ _ HR2.out Tryz.underlying163 rfl hi
     exact bodyPost_ret (v := .agg cs.toArray) (by simp [results, Tryz.results123]; exact hld) rfl ⟨B, by rw [HC.out], HBk, HBn.out, below_setCells _ (by omega) _ _ _ HO.out.bel⟩
end Go.Proofs.YtlnbjehimabaiaaGreatDoor
