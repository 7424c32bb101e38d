/-
  Several texts of one's own, laid together. No statement of the seat is proved here.
-/
import Derived.Test.YtmibjgkakolhiaaGreatDoorPk1
import Derived.Test.YtmibjgkakolhiaaGreatDoorPk32
import Derived.Test.YtmibjgkakolhiaaGreatDoorRB2
import Derived.Test.YtmibjgkakolhiaaGreatDoorPk35
import Derived.Test.YtmibjgkakolhiaaGreatDoorPk15
import Derived.Great.BuildSlice
/-
 What the reference's Hmac does. No statement of the seat is proved here.
-/
namespace Go.Proofs.YtmibjgkakolhiaaGreatDoor
open Go.RowKit

set_option maxRecDepth 8000 in
theorem Ow.extb {u v : World} {g n c : Nat} {l : List Int} (h : Ow u g n l) (hb : ExtB c u v) (hne : g ≠ c) : Ow v g n l := ⟨by
 obtain ⟨b, h'⟩ := h.own
 exact ⟨b, h'.kept (w' := v) (row := some c) ⟨hb.os, hb.tape, hb.output, hb.size, fun i hi hne2 => hb.block i hi (fun e => hne2 (by simp [e]))⟩ (.inr (by simp [Value.ownBlock]; first | exact fun e => hne e | exact fun e => hne e.symm))⟩, h.byt⟩
set_option maxRecDepth 8000 in
theorem Ow.own_at {u : World} {g n : Nat} {l : List Int} (h : Ow u g n l) : u.ownsRow g 5 1 (.slice (some ⟨g, 0, none⟩) n n) n (List.map (Value.int .u8) l) := by
 obtain ⟨b, h1, h2⟩ := h.own
 refine ⟨h1, ?_⟩
 rcases h2 with ⟨h2, _⟩ | ⟨g', cap, cur, hv, hg, r⟩
 ·cases h2
 ·cases hv
  exact .inr ⟨g, n, cur, rfl, Nat.le_refl _, r⟩
set_option maxRecDepth 8000 in
theorem Ow.cells {g n : Nat} : ∀ (x : List Int) (o : Nat) {u : World} {l : List Int}, Byt x → o + x.length ≤ n → Ow u g n l → Ow (u.setCells g o (List.map (Value.int .u8) x)) g n (l.take o ++ (x ++ l.drop (o + x.length)))
 | [], o, u, l, _, _, h => by
  rw [List.nil_append, List.length_nil, Nat.add_zero, List.take_append_drop]
  exact h
 | y :: x, o, u, l, hb, ho, h => by
  have hy := hb y (by simp)
  have hol : o < l.length := by rw [h.len]; rw [List.length_cons] at ho; omega
  have h1 : Ow (u.setCell ⟨g, o, none⟩ (.int .u8 y)) g n (l.set o y) := h.set o hy.1 hy.2
  have h2 := Ow.cells x (o + 1) (fun z hz => hb z (by simp [hz])) (by rw [List.length_cons] at ho; omega) h1
  have e : (l.set o y).take (o + 1) ++ (x ++ (l.set o y).drop (o + 1 + x.length)) = l.take o ++ (y :: x ++ l.drop (o + (y :: x).length)) := by
   rw [List.length_cons, List.take_succ_eq_append_getElem (by simpa using hol), List.getElem_set_self, List.take_set_of_le (Nat.le_refl _), List.drop_set_of_lt (by omega), List.append_assoc, show o + 1 + x.length = o + (x.length + 1) by omega]
   rfl
  rw [e] at h2
  exact h2
set_option maxRecDepth 8000 in
theorem Rd.apart {w w' : World} {a : Option Addr} {len cap bo : Nat} {l : List Int} (h : Rd w a len cap l) (hb : ExtB bo w w') (hne : 0 < len → ∀ p, a = some p → p.block ≠ bo) : Rd w' a len cap l :=
 ⟨h.hlen, h.hle, h.hnil, h.byt, fun h0 => by
  obtain ⟨b, off, ha, hc⟩ := h.cell h0
  exact ⟨b, off, ha, fun i hi => hb.cell (hne h0 _ ha) (hc i hi)⟩⟩
set_option maxRecDepth 8000 in
theorem Rd.inside {w : World} {a : Option Addr} {len cap : Nat} {l : List Int} (h : Rd w a len cap l) : 0 < len → ∀ p, a = some p → p.block < w.heap.size := fun h0 p hp => by
 obtain ⟨b, off, ha, hc⟩ := h.cell h0
 rw [ha] at hp
 cases hp
 exact World.block_lt_of_cell? w _ (hc 0 h0)
set_option maxRecDepth 8000 in
theorem ow8 {u : World} {g k : Nat} {x : Int} {B : List Int} (h : Ow u g 64 (xw8 x B k)) (hB : Bn 64 B) (hx : 0 ≤ x ∧ x ≤ 255) (hk : k < 64) :
  ∃ y, 0 ≤ y ∧ y ≤ 255 ∧ u.cell? ⟨g, k, none⟩ = some (.int .u8 y) ∧ u.frozen? ⟨g, k, none⟩ = false ∧ Ow (u.setCell ⟨g, k, none⟩ (.int .u8 (bits .xor .u8 y x))) g 64 (xw8 x B (k + 1)) := by
 have hl : k < B.length := by rw [hB.len]; exact hk
 obtain ⟨v, h1, h2, h3, h4, h5⟩ := h.cell k hk
 rw [xw8_get x B k hl] at h3
 have e : B[k]! = v := Option.some.inj h3
 have hy := xor8 v x ⟨h4, h5⟩ hx
 refine ⟨v, h4, h5, h1, h2, ?_⟩
 rw [xw8_succ x B k hl, e]
 exact h.set k hy.1 hy.2.1
set_option maxRecDepth 8000 in
set_option maxHeartbeats 8000000 in
theorem rhmac_c (a : Option Addr) (len cap : Nat) (key : List Int) (at' : Option Addr) (lt ct : Nat) (text : List Int) (w : World) (hr : Rd w a len cap key) (hrt : Rd w at' lt ct text) (hg : Gq w) (hlen : len ≤ 140737488355328) (hT : 64 + lt ≤ 140737488355328) :
  Calls Tryz.prog 40 #[.slice a len cap, .slice at' lt ct] w fun e w' => ∃ S, e = .returned (.agg (List.map (Value.int .u8) S).toArray) ∧ Hid (S = hm8 key text) ∧ Below w.heap.size w w' := by
 have HR : Hid (Rd w a len cap key) := hr
 have HRT : Hid (Rd w at' lt ct text) := hrt
 have HG : Hid (Gq w) := hg
 have HLL : Hid (key.length = len) := hr.hlen
 have HLT : Hid (text.length = lt) := hrt.hlen
 have HTB : Hid (Byt text) := hrt.byt
 have HKB : Hid (Bn 64 (kp8 key)) := kp8_bn hr.byt
 obtain ⟨i0, hi, hz0, hz1, hz2⟩ := info_parts info5
 clear hr hrt hg
 go_enter Tryz.func40, Tryz.ntmps40
 go_upto_region 1 with fail
 have HD : Hid ((w.alloc (.cells zb32 33)).there w.heap.size 0 32) := by unfold Hid; exact there_new _ 32 _ rfl _
 have HB : Hid (Below w.heap.size w (w.alloc (.cells zb32 33))) := bel1 _ _
 obtain ⟨W0, hW0⟩ : ∃ W, W = (w.alloc (.cells zb32 33)) := ⟨_, rfl⟩
 obtain ⟨q2, hq2⟩ : ∃ q, q = w.heap.size := ⟨_, rfl⟩
 rw [← hW0] at HD HB ⊢
 have HQ : Hid (q2 = w.heap.size) := hq2
 rw [← hq2] at HD ⊢
 have k1 : q2 < W0.heap.size := there_lt HD.out (by decide)
 clear hW0 hq2
 replace HR := hidp (HR.out.below HB.out)
 go_upto_if 12 with fail
 go_cut [0] from 10 (fun v wx => ∃ (a' : Option Addr) (n' c' : Nat) (l' : List Int), v = .slice a' n' c' ∧ Hid (Rd wx a' n' c' l') ∧ n' ≤ 64 ∧ Hid (l' = if 64 < key.length then sum7 key else key) ∧ Hid (Below W0.heap.size W0 wx))
 case first =>
  by_cases hgt : 64 < len
  ·have q1 : (64 : Int) < (len : Int) := by omega
   go_wp2_with fail
   refine (rsum_c a len cap key _ HR.out hlen (HG.out.later HB.out)).mono ?_
   rintro e V1 ⟨S1, rfl, HS1, hb⟩
   have hSn : Bn 32 S1 := by rw [HS1.out]; exact sum7_bn _
   have hb2 : Hid (Below W0.heap.size W0 V1) := hb
   clear hb
   obtain ⟨hlenb1, honeb1, hib1⟩ := bn32_cells hSn
   obtain ⟨csb1, hcs⟩ : ∃ cs, cs = (List.map (Value.int .u8) S1) := ⟨_, rfl⟩
   rw [← hcs] at hlenb1 honeb1 hib1 ⊢
   have HCb1 : Hid (csb1 = (List.map (Value.int .u8) S1)) := hcs
   clear hcs
   have hth := there_new V1 32 zb32 rfl 33
   have Ab1 : Hid (Ar ((V1.alloc (.cells zb32 33)).setCells V1.heap.size 0 csb1) V1.heap.size 32 (List.map (Value.int .u8) S1)) := by rw [← HCb1.out]; exact ar_var _ _ 32 rfl _ _ hlenb1
   have hX : Below V1.heap.size V1 ((V1.alloc (.cells zb32 33)).setCells V1.heap.size 0 csb1) := bel_var _ _ _ _
   go_upto_region 3 with (refine wpList_store_mid rfl 33 (.tmp 5) (.tmp 14) rfl V1.heap.size 0 csb1.toArray rfl rfl (by simpa [hlenb1] using hth) (by simpa using hib1) (all_oneCell_toArray honeb1) ?_)
   clear hth honeb1 hlenb1
   obtain ⟨W1, hnew⟩ : ∃ W, W = ((V1.alloc (.cells zb32 33)).setCells V1.heap.size 0 csb1) := ⟨_, rfl⟩
   obtain ⟨b1, hblk⟩ : ∃ q, q = V1.heap.size := ⟨_, rfl⟩
   rw [← hnew] at Ab1 hX ⊢
   rw [← hblk] at Ab1 ⊢
   rw [HCb1.out] at hib1
   clear hnew HCb1
   clear hblk
   replace hX : Below W0.heap.size W0 W1 := hb2.out.trans (hX.mono hb2.out.size)
   go_wp2_with fail
   go_meet
   case rel => exact ⟨_, 32, 32, S1, rfl, Ab1.out.rd_all hSn.byt 32 (by decide), by decide, by unfold Hid; rw [if_pos (by rw [HLL.out]; exact hgt)]; exact HS1.out, hX⟩
  ·have q1 : ¬ (64 : Int) < (len : Int) := by omega
   go_wp2_with fail
   go_meet
   case rel => exact ⟨a, len, cap, key, rfl, HR, by omega, by unfold Hid; rw [if_neg (by rw [HLL.out]; exact hgt)], Below.refl _ _⟩
 case rest =>
 obtain ⟨a', n', c', l', rfl, HR2, hn', HL2, HB2⟩ := hcut
 obtain ⟨W1, hW1⟩ : ∃ W, W = wc := ⟨_, rfl⟩
 rw [← hW1] at HR2 HB2 ⊢
 clear hW1
 replace HD : Hid (W1.there q2 0 32) := there_later HB2.out HD.out
 replace HB := hidp (HB.out.trans (HB2.out.mono HB.out.size))
 replace k1 : q2 < W1.heap.size := by have := HB2.out.size; omega
 have hLl : l'.length = n' := HR2.out.hlen
 clear HR HB2
 go_wp2_with (at_make; refine wpList_make_full _ rfl _ _ 28 rfl W1.heap.size 5 i0 (.int .u8 0) 1 Tryz.underlying28 hi hz0 hz1 _ _ _ _ 64 rfl rfl rfl rfl (by rw [hz2]; decide) (by unfold maxLen; decide) (Nat.le_refl _) ?_)
 intro W2 hown hgrow
 have hb : Below W1.heap.size W1 W2 := (Below.refl _ _).grown hgrow (Nat.le_refl _) (fun k h => by cases h)
 have Hgi : Hid (Ow W2 W1.heap.size 64 (List.replicate 64 0)) := ⟨⟨W1.heap.size, by rw [← made_zero]; simpa [Value.cells] using hown⟩, byt_zero 64⟩
 obtain ⟨gi, hblk⟩ : ∃ q, q = W1.heap.size := ⟨_, rfl⟩
 rw [← hblk] at Hgi ⊢
 have kq1 : q2 < gi := by rw [hblk]; exact k1
 have hR2l : 0 < n' → ∀ p, a' = some p → p.block < gi := by rw [hblk]; exact HR2.out.inside
 have kw1 : w.heap.size ≤ gi := by rw [hblk]; exact HB.out.size
 replace HD : Hid (W2.there q2 0 32) := there_later hb HD.out
 replace HR2 := hidp (HR2.out.below hb)
 have hR2n : 0 < n' → ∀ p, a' = some p → p.block ≠ gi := fun h0 p hp => by have := hR2l h0 p hp; omega
 replace HB := hidp (HB.out.trans (hb.mono HB.out.size))
 have kg1 : gi < W2.heap.size := Hgi.out.lt
 clear hown hgrow hb hblk k1
 go_wp2_with (at_make; refine wpList_make_full _ rfl _ _ 28 rfl W2.heap.size 5 i0 (.int .u8 0) 1 Tryz.underlying28 hi hz0 hz1 _ _ _ _ 64 rfl rfl rfl rfl (by rw [hz2]; decide) (by unfold maxLen; decide) (Nat.le_refl _) ?_)
 intro W3 hown hgrow
 have hb : Below W2.heap.size W2 W3 := (Below.refl _ _).grown hgrow (Nat.le_refl _) (fun k h => by cases h)
 have Hgo : Hid (Ow W3 W2.heap.size 64 (List.replicate 64 0)) := ⟨⟨W2.heap.size, by rw [← made_zero]; simpa [Value.cells] using hown⟩, byt_zero 64⟩
 obtain ⟨go, hblk⟩ : ∃ q, q = W2.heap.size := ⟨_, rfl⟩
 rw [← hblk] at Hgo ⊢
 have kq2 : gi < go := by rw [hblk]; exact kg1
 replace HD : Hid (W3.there q2 0 32) := there_later hb HD.out
 replace HR2 := hidp (HR2.out.below hb)
 replace Hgi := hidp (Hgi.out.later hb)
 replace HB := hidp (HB.out.trans (hb.mono HB.out.size))
 clear hown hgrow hb hblk kg1 hi hz0 hz1 hz2
 go_upto_region 6 with fail
 go_cut [] from 18 (fun wx => Hid (Ow wx gi 64 (pad7 l')) ∧ Hid (ExtB gi W3 wx))
 case first =>
  have hAC : Ow (W3.setCells gi 0 (List.map (Value.int .u8) l')) gi 64 (pad7 l') := by
   have := Ow.cells l' 0 HR2.out.byt (by omega) Hgi.out
   rw [pad8_copy] at this
   exact this
  rcases a' with _ | ⟨ba, off, sp⟩
  ·obtain ⟨hr0, hc0, -⟩ := HR2.out.none_len
   have hC0 : l' = [] := List.eq_nil_of_length_eq_zero (by omega)
   subst hr0 hc0
   have hcp := fun ty => run_copy_none (P := Tryz.prog) W3 28 28 ty 5 (some ⟨gi, 0, none⟩) none 64 64 0 0 Tryz.underlying28 (by kernel_rfl) (by decide)
   go_wp2_with fail
   go_meet
   case rel => exact ⟨by rw [hC0] at hAC ⊢; exact hAC, ExtB.refl _ _⟩
  ·have hle := HR2.out.hle
   have hcp := fun ty => copy_c W3 gi 0 64 64 ⟨ba, off, sp⟩ n' c' l' HR2.out n' (by omega) (there_part Hgi.out.there 0 n' (by omega)) ty
   rw [List.take_of_length_le (by omega)] at hcp
   go_wp2_with fail
   go_meet
   case rel => exact ⟨hAC, extB_setCells _ _ _ (ExtB.refl _ _)⟩
 case rest =>
 obtain ⟨HO, HE⟩ := hcut
 obtain ⟨W4, hW⟩ : ∃ W, W = wc := ⟨_, rfl⟩
 rw [← hW] at HO HE ⊢
 clear hW Hgi
 have Hgi : Hid (Ow W4 gi 64 (pad7 l')) := HO
 clear HO
 replace HD : Hid (W4.there q2 0 32) := there_extb HE.out (by omega) HD.out
 replace Hgo : Hid (Ow W4 go 64 (List.replicate 64 0)) := Hgo.out.extb HE (by omega)
 replace HR2 : Hid (Rd W4 a' n' c' l') := HR2.out.apart HE hR2n
 replace HB : Hid (Below w.heap.size w W4) := HE.below HB.out kw1
 have hR2o : 0 < n' → ∀ p, a' = some p → p.block ≠ go := fun h0 p hp => by have := hR2l h0 p hp; omega
 clear HE hR2n hR2l
 go_upto_region 7 with fail
 go_cut [] from 21 (fun wx => Hid (Ow wx go 64 (pad7 l')) ∧ Hid (ExtB go W4 wx))
 case first =>
  have hAC : Ow (W4.setCells go 0 (List.map (Value.int .u8) l')) go 64 (pad7 l') := by
   have := Ow.cells l' 0 HR2.out.byt (by omega) Hgo.out
   rw [pad8_copy] at this
   exact this
  rcases a' with _ | ⟨ba, off, sp⟩
  ·obtain ⟨hr0, hc0, -⟩ := HR2.out.none_len
   have hC0 : l' = [] := List.eq_nil_of_length_eq_zero (by omega)
   subst hr0 hc0
   have hcp := fun ty => run_copy_none (P := Tryz.prog) W4 28 28 ty 5 (some ⟨go, 0, none⟩) none 64 64 0 0 Tryz.underlying28 (by kernel_rfl) (by decide)
   go_wp2_with fail
   go_meet
   case rel => exact ⟨by rw [hC0] at hAC ⊢; exact hAC, ExtB.refl _ _⟩
  ·have hle := HR2.out.hle
   have hcp := fun ty => copy_c W4 go 0 64 64 ⟨ba, off, sp⟩ n' c' l' HR2.out n' (by omega) (there_part Hgo.out.there 0 n' (by omega)) ty
   rw [List.take_of_length_le (by omega)] at hcp
   go_wp2_with fail
   go_meet
   case rel => exact ⟨hAC, extB_setCells _ _ _ (ExtB.refl _ _)⟩
 case rest =>
 obtain ⟨HO, HE⟩ := hcut
 obtain ⟨W5, hW⟩ : ∃ W, W = wc := ⟨_, rfl⟩
 rw [← hW] at HO HE ⊢
 clear hW Hgo
 have Hgo : Hid (Ow W5 go 64 (pad7 l')) := HO
 clear HO
 replace HD : Hid (W5.there q2 0 32) := there_extb HE.out (by omega) HD.out
 replace Hgi : Hid (Ow W5 gi 64 (pad7 l')) := Hgi.out.extb HE (by omega)
 replace HB : Hid (Below w.heap.size w W5) := HE.below HB.out (by omega)
 obtain ⟨K, HK⟩ : ∃ K, Hid (K = kp8 key) := ⟨_, rfl⟩
 have hKe : pad7 l' = K := by rw [HL2.out, HK.out]; rfl
 have HKN : Hid (Bn 64 K) := by unfold Hid; rw [HK.out]; exact HKB.out
 rw [hKe] at Hgi Hgo
 replace Hgi : Hid (Ow W5 gi 64 (xw8 54 K 0)) := by unfold Hid; rw [xw8_zero]; exact Hgi.out
 replace Hgo : Hid (Ow W5 go 64 (xw8 92 K 0)) := by unfold Hid; rw [xw8_zero]; exact Hgo.out
 clear HE hR2o HR2 hKe HL2 HKB hLl
 go_wp2
 go_loopw [8] (fun i wr => ∃ k : Nat, k ≤ 64 ∧ i = .int .i64 k ∧ Hid (Ow wr gi 64 (xw8 54 K k)) ∧ Hid (Ow wr go 64 (xw8 92 K k)) ∧ Hid (wr.there q2 0 32) ∧ Hid (Below w.heap.size w wr)) (fun i _ => 64 - (intOf i).toNat)
 case atStart => exact ⟨0, by decide, rfl, Hgi, Hgo, HD, HB⟩
 case round =>
  clear Hgi Hgo HD HB
  obtain ⟨k, hk, rfl, Hgi, Hgo, HD, HB⟩ := hrel
  by_cases hlt : k < 64
  ·have c1 : (k : Int) < 64 := by omega
   obtain ⟨y, hy0, hy1, ck, fk, hN⟩ := ow8 Hgi.out HKN.out (by decide) hlt
   obtain ⟨z, hz⟩ : ∃ z, z = bits .xor .u8 y 54 := ⟨_, rfl⟩
   have hzz : bits .xor .u8 y 54 = z := hz.symm
   rw [← hz] at hN
   have HN : Hid (Ow (wr.setCell ⟨gi, k, none⟩ (.int .u8 z)) gi 64 (xw8 54 K (k + 1))) := hN
   have HO2 : Hid (Ow (wr.setCell ⟨gi, k, none⟩ (.int .u8 z)) go 64 (xw8 92 K k)) := Hgo.out.else gi k (by omega) _
   have HD2 : Hid ((wr.setCell ⟨gi, k, none⟩ (.int .u8 z)).there q2 0 32) := there_set HD.out _ _ _
   have HB2 : Hid (Below w.heap.size w (wr.setCell ⟨gi, k, none⟩ (.int .u8 z))) := HB.out.setCell (p := ⟨gi, k, none⟩) kw1 _
   clear hz hN Hgi Hgo HD HB
   go_upto_region 12 with fail
   obtain ⟨U, hU⟩ : ∃ U, U = wr.setCell ⟨gi, k, none⟩ (.int .u8 z) := ⟨_, rfl⟩
   rw [← hU] at HN HO2 HD2 HB2 ⊢
   clear hU hzz ck fk hy0 hy1
   obtain ⟨y2, hy0, hy1, ck, fk, hN⟩ := ow8 HO2.out HKN.out (by decide) hlt
   obtain ⟨z2, hz⟩ : ∃ z, z = bits .xor .u8 y2 92 := ⟨_, rfl⟩
   have hzz : bits .xor .u8 y2 92 = z2 := hz.symm
   rw [← hz] at hN
   have HN2 : Hid (Ow (U.setCell ⟨go, k, none⟩ (.int .u8 z2)) go 64 (xw8 92 K (k + 1))) := hN
   replace HN : Hid (Ow (U.setCell ⟨go, k, none⟩ (.int .u8 z2)) gi 64 (xw8 54 K (k + 1))) := HN.out.else go k (by omega) _
   replace HD2 : Hid ((U.setCell ⟨go, k, none⟩ (.int .u8 z2)).there q2 0 32) := there_set HD2.out _ _ _
   replace HB2 : Hid (Below w.heap.size w (U.setCell ⟨go, k, none⟩ (.int .u8 z2))) := HB2.out.setCell (p := ⟨go, k, none⟩) (by dsimp only; omega) _
   clear hz hN HO2
   go_wp2
   go_roundw
   case rel => exact ⟨k + 1, by omega, by go_num, HN, HN2, HD2, HB2⟩
   case measure => simp [intOf]; omega
  ·have e : k = 64 := by omega
   subst e
   rw [xw8_all 54 K HKN.out.len] at Hgi
   rw [xw8_all 92 K HKN.out.len] at Hgo
   have HRT2 : Hid (Rd wr at' lt ct text) := HRT.out.below HB.out
   have hgil : gi < wr.heap.size := Hgi.out.lt
   have hgol : go < wr.heap.size := Hgo.out.lt
   go_wp2_with (at_builtin; refine wpList_app_at rfl (.tmp 44) (.tmp 45) rfl gi _ 64 (xm8 54 K) rfl Hgi.out.own_at at' lt ct text rfl HRT2.out hT (Nat.le_of_lt hgil) ?_)
   intro v6 W6 hown hgr hwh
   rw [← List.map_append] at hown
   obtain ⟨a6, c6, rfl⟩ := owns_sh hown
   have hE : ExtB gi wr W6 := extb_grown hgr
   have HR6 : Hid (Rd W6 a6 (64 + lt) c6 (xm8 54 K ++ text)) := rd_own ((xm8_byt (by decide) HKN.out.byt).app HTB.out) hown
   replace Hgo : Hid (Ow W6 go 64 (xm8 92 K)) := Hgo.out.extb hE (by omega)
   replace HD : Hid (W6.there q2 0 32) := there_extb hE (by omega) HD.out
   replace HB : Hid (Below w.heap.size w W6) := hE.below HB.out kw1
   clear hown hgr hwh hE Hgi HRT2 hgil hgol
   obtain ⟨n6, hn6⟩ : ∃ n, n = 64 + lt := ⟨_, rfl⟩
   rw [← hn6] at HR6 hT ⊢
   clear hn6
   go_wp2_with fail
   refine (rsum_c a6 n6 c6 (xm8 54 K ++ text) _ HR6.out hT (HG.out.later HB.out)).mono ?_
   rintro e V7 ⟨S1, rfl, HS1, hb⟩
   have HSN1 : Hid (Bn 32 S1) := by unfold Hid; rw [HS1.out]; exact sum7_bn _
   replace Hgo := hidp (Hgo.out.later hb)
   replace HD : Hid (V7.there q2 0 32) := there_later hb HD.out
   replace HB := hidp (HB.out.trans (hb.mono HB.out.size))
   clear hb HR6
   obtain ⟨hlenb9, honeb9, hib9⟩ := bn32_cells HSN1.out
   obtain ⟨csb9, hcs⟩ : ∃ cs, cs = (List.map (Value.int .u8) S1) := ⟨_, rfl⟩
   rw [← hcs] at hlenb9 honeb9 hib9 ⊢
   have HCb9 : Hid (csb9 = (List.map (Value.int .u8) S1)) := hcs
   clear hcs
   have hth := there_new V7 32 zb32 rfl 33
   have Ab9 : Hid (Ar ((V7.alloc (.cells zb32 33)).setCells V7.heap.size 0 csb9) V7.heap.size 32 (List.map (Value.int .u8) S1)) := by rw [← HCb9.out]; exact ar_var _ _ 32 rfl _ _ hlenb9
   have hX : Below V7.heap.size V7 ((V7.alloc (.cells zb32 33)).setCells V7.heap.size 0 csb9) := bel_var _ _ _ _
   go_upto_region 14 with (refine wpList_store_mid rfl 33 (.tmp 9) (.tmp 47) rfl V7.heap.size 0 csb9.toArray rfl rfl (by simpa [hlenb9] using hth) (by simpa using hib9) (all_oneCell_toArray honeb9) ?_)
   clear hth honeb9 hlenb9
   obtain ⟨W7, hnew⟩ : ∃ W, W = ((V7.alloc (.cells zb32 33)).setCells V7.heap.size 0 csb9) := ⟨_, rfl⟩
   obtain ⟨b9, hblk⟩ : ∃ q, q = V7.heap.size := ⟨_, rfl⟩
   rw [← hnew] at Ab9 hX ⊢
   rw [← hblk] at Ab9 ⊢
   rw [HCb9.out] at hib9
   clear hnew HCb9
   replace Hgo := hidp (Hgo.out.later hX)
   replace HD : Hid (W7.there q2 0 32) := there_later hX HD.out
   replace HB := hidp (HB.out.trans (hX.mono HB.out.size))
   clear hX hblk hib9
   have HR9 : Hid (Rd W7 (some ⟨b9, 0, none⟩) 32 32 S1) := Ab9.out.rd_all HSN1.out.byt 32 (by decide)
   have hgol : go < W7.heap.size := Hgo.out.lt
   go_wp2_with (at_builtin; refine wpList_app_at rfl (.tmp 48) (.tmp 49) rfl go _ 64 (xm8 92 K) rfl Hgo.out.own_at (some ⟨b9, 0, none⟩) 32 32 S1 rfl HR9.out (by decide) (Nat.le_of_lt hgol) ?_)
   intro v8 W8 hown hgr hwh
   rw [← List.map_append] at hown
   obtain ⟨a8, c8, rfl⟩ := owns_sh hown
   have hE : ExtB go W7 W8 := extb_grown hgr
   have HR8 : Hid (Rd W8 a8 96 c8 (xm8 92 K ++ S1)) := rd_own ((xm8_byt (by decide) HKN.out.byt).app HSN1.out.byt) hown
   replace HD : Hid (W8.there q2 0 32) := there_extb hE (by omega) HD.out
   replace HB : Hid (Below w.heap.size w W8) := hE.below HB.out (by omega)
   clear hown hgr hwh hE Hgo HR9 Ab9 hgol
   go_wp2_with fail
   refine (rsum_c a8 96 c8 (xm8 92 K ++ S1) _ HR8.out (by decide) (HG.out.later HB.out)).mono ?_
   rintro e V9 ⟨S, rfl, HS, hb⟩
   have hSn : Bn 32 S := by rw [HS.out]; exact sum7_bn _
   replace HS : Hid (S = hm8 key text) := by unfold Hid hm8; rw [HS.out, HS1.out, HK.out]
   replace HD : Hid (V9.there q2 0 32) := there_later hb HD.out
   replace HB := hidp (HB.out.trans (hb.mono HB.out.size))
   clear hb HS1 HSN1 HR8
   obtain ⟨hlen', hone, hi⟩ := bn32_cells hSn
   obtain ⟨cs, hcs⟩ : ∃ cs, cs = (List.map (Value.int .u8) S) := ⟨_, rfl⟩
   have HC : Hid (cs = (List.map (Value.int .u8) S)) := hcs
   rw [← hcs] at hlen' hone hi ⊢
   clear hcs
   have hth := HD.out
   go_wp2_with (refine wpList_store_mid rfl 33 (.tmp 4) (.tmp 51) rfl q2 0 cs.toArray rfl rfl (by simpa [hlen'] using hth) (by simpa using hi) (all_oneCell_toArray hone) ?_)
   have HR2 : Hid ((V9.setCells q2 0 cs).rangeAt q2 0 cs) := World.rangeAt_setCells_same _ _ _ _ (by rw [hlen']; exact hth)
   have hld := run_loadVar_mid (P := Tryz.prog) _ _ 0 33 _ _ HR2.out Tryz.underlying33 rfl hi
   exact bodyPost_ret (v := .agg cs.toArray) (by simp [results, Tryz.results40]; exact hld) rfl ⟨S, by rw [HC.out], HS, below_setCells _ (by have := HQ.out; omega) _ _ _ HB.out⟩

end Go.Proofs.YtmibjgkakolhiaaGreatDoor
/-
 Slices of arrays of thirty-two bytes that are written out, and appended to. No statement of the seat is proved here.
-/
namespace Go.Proofs.YtmibjgkakolhiaaGreatDoor
open Go.RowKit

set_option maxRecDepth 8000 in
theorem fold_set (off : Nat) : ∀ (vs : List Value) (k : Nat) (cs : Array Value), off + k + vs.length ≤ cs.size → ((vs.zipIdx k).foldl (fun cs (x : Value × Nat) => cs.setIfInBounds (off + x.2) x.1) cs).toList = cs.toList.take (off + k) ++ (vs ++ cs.toList.drop (off + k + vs.length))
 | [], k, cs, _ => by simp
 | v :: vs, k, cs, h => by
  rw [List.length_cons] at h
  rw [List.zipIdx_cons, List.foldl_cons, fold_set off vs (k + 1) _ (by rw [Array.size_setIfInBounds]; omega), Array.toList_setIfInBounds, ← Nat.add_assoc, List.take_succ_eq_append_getElem (by simp; omega), List.getElem_set_self, List.take_set_of_le (Nat.le_refl _), List.drop_set_of_lt (by omega), List.append_assoc, List.length_cons, show off + k + 1 + vs.length = off + k + (vs.length + 1) by omega]
  rfl
set_option maxRecDepth 8000 in
theorem fill_one (Z : Array Value) (i : Nat) (vs : Array Value) (rest : List (Nat × Value)) (hv : vs.size = 32) (hi : i * 32 + 32 ≤ Z.size) :
  ∃ Z' : Array Value, Z'.toList = Z.toList.take (i * 32) ++ (vs.toList ++ Z.toList.drop (i * 32 + 32)) ∧ Instr.fill (fun i => some (i * 32, 32)) Z ((i, .agg vs) :: rest) = Instr.fill (fun i => some (i * 32, 32)) Z' rest := by
 refine ⟨(vs.toList.zipIdx 0).foldl (fun cs (x : Value × Nat) => cs.setIfInBounds (i * 32 + x.2) x.1) Z, ?_, ?_⟩
 ·have := fold_set (i * 32) vs.toList 0 Z (by simp [hv]; omega)
  rw [this]
  simp [hv]
 ·have e : (Value.agg vs).cells = vs := rfl
  have h2 : ¬ (vs.size ≠ 32 || decide (i * 32 + vs.size > Z.size)) = true := by simp [hv]; omega
  rw [Instr.fill]
  simp only [e]
  rw [if_neg (by simpa using h2)]
  congr 1
  rw [← Array.toList_zipIdx, Array.foldl_toList]
set_option maxRecDepth 8000 in
theorem arr_info : (Tryz.prog.info? 33).map (fun i => (i.zero.isSome, i.size)) = some (true, 32) := by kernel_rfl
set_option maxRecDepth 8000 in
theorem arr_parts : ∃ i z, Tryz.prog.info? 33 = some i ∧ i.zero = some z ∧ i.size = 32 := by
 have h := arr_info
 cases hi : Tryz.prog.info? 33 with
 | none => rw [hi] at h; cases h
 | some i =>
  rw [hi] at h
  simp only [Option.map_some, Option.some.injEq, Prod.mk.injEq] at h
  obtain ⟨z, hz⟩ := Option.isSome_iff_exists.1 h.1
  exact ⟨i, z, rfl, hz, h.2⟩
set_option maxRecDepth 8000 in
theorem run_b2 (A S : List Int) (hA : Bn 32 A) (hS : Bn 32 S) (w : World) :
  (Instr.buildSlice 57 2 #[(0, (.agg (List.map (Value.int .u8) A).toArray)), (1, (.agg (List.map (Value.int .u8) S).toArray))]).run Tryz.prog w = .ok (.slice (some ⟨w.heap.size, 0, none⟩) 2 2) (w.alloc (.cells (List.map (Value.int .u8) (A ++ S)).toArray 33)) := by
 obtain ⟨i, z, hi, hz, hs⟩ := arr_parts
 refine run_buildSlice w 57 33 2 _ _ i z Tryz.underlying57 hi hz (by rw [hs]; decide) (by rw [hs]; decide) ?_
 rw [hs]
 obtain ⟨Z1, h1, e1⟩ := fill_one ((Array.range (2 * 32)).map (z.cells[· % z.cells.size]!)) 0 (List.map (Value.int .u8) A).toArray [(1, (.agg (List.map (Value.int .u8) S).toArray))] (by simp [hA.len]) (by simp)
 have l1 : Z1.size = 64 := by rw [← Array.length_toList, h1]; simp [hA.len]
 obtain ⟨Z2, h2, e2⟩ := fill_one Z1 1 (List.map (Value.int .u8) S).toArray [] (by simp [hS.len]) (by omega)
 rw [e1, e2, Instr.fill]
 congr 1
 apply Array.toList_inj.1
 rw [h2, h1]
 simp [hA.len]
set_option maxRecDepth 8000 in
theorem run_b1 (A : List Int) (hA : Bn 32 A) (w : World) :
  (Instr.buildSlice 57 1 #[(0, (.agg (List.map (Value.int .u8) A).toArray))]).run Tryz.prog w = .ok (.slice (some ⟨w.heap.size, 0, none⟩) 1 1) (w.alloc (.cells (List.map (Value.int .u8) A).toArray 33)) := by
 obtain ⟨i, z, hi, hz, hs⟩ := arr_parts
 refine run_buildSlice w 57 33 1 _ _ i z Tryz.underlying57 hi hz (by rw [hs]; decide) (by rw [hs]; decide) ?_
 rw [hs]
 obtain ⟨Z1, h1, e1⟩ := fill_one ((Array.range (1 * 32)).map (z.cells[· % z.cells.size]!)) 0 (List.map (Value.int .u8) A).toArray [] (by simp [hA.len]) (by simp)
 rw [e1, Instr.fill]
 congr 1
 apply Array.toList_inj.1
 rw [h1]
 simp
set_option maxRecDepth 8000 in
theorem wpList_b2 {ops : Array Oper} {rest : List Oper} {o : Oper} {a : Act} {w : World} {Q : Exit → Act → World → Prop} (hgd : o.guard = none) (x y : Operand) (ho : o.op = Op.buildSlice 57 2 #[(0, x), (1, y)]) (A S : List Int) (hA : Bn 32 A) (hS : Bn 32 S) (hx : a.eval x = (.agg (List.map (Value.int .u8) A).toArray)) (hy : a.eval y = (.agg (List.map (Value.int .u8) S).toArray))
  (h : wpList Tryz.prog ops Q rest (a.put o.dst (.slice (some ⟨w.heap.size, 0, none⟩) 2 2)) (w.alloc (.cells (List.map (Value.int .u8) (A ++ S)).toArray 33))) : wpList Tryz.prog ops Q (o :: rest) a w := by
 refine wpList_plain hgd fun K hK => ?_
 have hr := run_b2 A S hA hS w
 unfold Oper.wp execOp
 simp only [ho, Sem.run_bind, List.map_toArray, List.map_cons, List.map_nil, hx, hy, hr]
 exact hK _ _ h
set_option maxRecDepth 8000 in
theorem step_b1 {ops : Array Oper} {o : Oper} {a : Act} {w : World} {K : Act → World → Prop} {Q : Exit → Act → World → Prop} {E : Prop} (hgd : o.guard = none) (x : Operand) (ho : o.op = Op.buildSlice 57 1 #[(0, x)]) (C : List Int) (hC : Bn 32 C) (hx : a.eval x = (.agg (List.map (Value.int .u8) C).toArray))
  (h : K (a.put o.dst (.slice (some ⟨w.heap.size, 0, none⟩) 1 1)) (w.alloc (.cells (List.map (Value.int .u8) C).toArray 33))) : if Region.wanted o (yielded ops a.tmps) = true then Oper.wp Tryz.prog o a w K Q else E := by
 have hw : Region.wanted o (yielded ops a.tmps) = true := by simp [Region.wanted, hgd]
 have hr := run_b1 C hC w
 rw [if_pos hw]
 unfold Oper.wp execOp
 simp only [ho, Sem.run_bind, List.map_toArray, List.map_cons, List.map_nil, hx, hr]
 exact h
end Go.Proofs.YtmibjgkakolhiaaGreatDoor
