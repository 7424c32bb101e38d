/-
  Several texts of one's own, laid together. No statement of the seat is proved here.
-/
import Derived.Test.YtmibjgkakolhiaaGreatDoorPk1
import Derived.Test.YtmibjgkakolhiaaGreatDoorPk45
import Derived.Test.YtmibjgkakolhiaaGreatDoorPk3
import Derived.Test.YtmibjgkakolhiaaGreatDoorPk38
/-
 What the reference's Open does. No statement of the seat is proved here.
-/
namespace Go.Proofs.YtmibjgkakolhiaaGreatDoor
open Go.RowKit

set_option maxRecDepth 8000 in
set_option maxHeartbeats 4000000 in
theorem ropen_short (key nonce : List Int) (aa : Option Addr) (la ca : Nat) (ad : List Int) (ab : Option Addr) (lb cb : Nat) (box : List Int) (w : World) (hrb : Rd w ab lb cb box) (hlt : lb < 16) :
  Calls Tryz.prog 49 #[(.agg (List.map (Value.int .u8) key).toArray), (.agg (List.map (Value.int .u8) nonce).toArray), .slice aa la ca, .slice ab lb cb] w fun e w' => ∃ a' m c X E, e = .returned (.tuple #[.slice a' m c, .int .i64 E]) ∧ (E = 0 ∨ E = 1 ∨ E = 2) ∧ Hid (er6 key nonce ad box = if E = 1 then 7 else if E = 2 then 8 else 0) ∧ Hid (X = op6 key nonce ad box) ∧ Hid (Rd w' a' m c X) ∧ Fr w.heap.size a' m ∧ Below w.heap.size w w' := by
 have HE : Hid (er6 key nonce ad box = 7) := by unfold Hid er6; rw [if_pos (by rw [hrb.hlen]; exact hlt)]
 have hlt' : (lb : Int) < 16 := by omega
 clear hrb
 go_enter Tryz.func49, Tryz.ntmps49
 go_wp2
 go_ret2
 refine ⟨none, 0, 0, [], 1, rfl, .inr (.inl rfl), HE.out, ?_, Rd.nil _ _ _ (fun _ => rfl), fr_nil, bel2 _ _ _⟩
 unfold Hid
 rw [op6_not _ _ _ _ (by rw [HE.out]; decide)]

set_option maxRecDepth 8000 in
set_option maxHeartbeats 8000000 in
theorem ropen_long (key nonce : List Int) (aa : Option Addr) (la ca : Nat) (ad : List Int) (b off lb cb : Nat) (box : List Int) (hk : Bn 32 key) (hn : Bn 12 nonce) (w : World) (hra : Rd w aa la ca ad) (hrb : Rd w (some ⟨b, off, none⟩) lb cb box) (hg : Gr w) (hm : la + lb + 46 ≤ 2097152) (hge : ¬ lb < 16) :
  Calls Tryz.prog 49 #[(.agg (List.map (Value.int .u8) key).toArray), (.agg (List.map (Value.int .u8) nonce).toArray), .slice aa la ca, .slice (some ⟨b, off, none⟩) lb cb] w fun e w' => ∃ a' m c X E, e = .returned (.tuple #[.slice a' m c, .int .i64 E]) ∧ (E = 0 ∨ E = 1 ∨ E = 2) ∧ Hid (er6 key nonce ad box = if E = 1 then 7 else if E = 2 then 8 else 0) ∧ Hid (X = op6 key nonce ad box) ∧ Hid (Rd w' a' m c X) ∧ Fr w.heap.size a' m ∧ Below w.heap.size w w' := by
 have HRA : Hid (Rd w aa la ca ad) := hra
 have HRB : Hid (Rd w (some ⟨b, off, none⟩) lb cb box) := hrb
 have HG : Hid (Gr w) := hg
 have HBB : Hid (Byt box) := hrb.byt
 have hle := hrb.hle
 have HLB : Hid (box.length = lb) := hrb.hlen
 clear hra hrb hg
 obtain ⟨n, hnn⟩ : ∃ n, n = lb - 16 := ⟨_, rfl⟩
 have hnl : n ≤ lb := by omega
 have hn1 : (lb : Int) - 16 = (n : Int) := by omega
 have hn2 : (n : Int) ≤ cb := by omega
 have hn4 : (n : Int) ≤ lb := by omega
 have hn3 : (n : Int).toNat = n := by omega
 have hn5 : ¬ cb = n := by omega
 have hn6 : lb - n = 16 := by omega
 have hge' : ¬ (lb : Int) < 16 := by omega
 have hnw : IntKind.i64.wrap (n : Int) = (n : Int) := by rw [IntKind.wrap_i64]; omega
 have HER : Hid (er6 key nonce ad box = if tt6 key nonce ad (box.take n) = box.drop n then 0 else 8) := by unfold Hid er6; rw [HLB.out, if_neg hge, ← hnn]
 have HOP : Hid (er6 key nonce ad box = 0 → op6 key nonce ad box = ap key 1 nonce (box.take n)) := fun h => by unfold op6; rw [if_pos h, HLB.out, ← hnn]
 clear hnn
 have HK : Hid (Bn 32 key) := hk
 have HN : Hid (Bn 12 nonce) := hn
 clear hk hn
 obtain ⟨_, _, hiK⟩ := bn32_cells HK.out
 obtain ⟨_, _, hiN⟩ := bn12_cells HN.out
 go_enter Tryz.func49, Tryz.ntmps49
 go_upto_region 1 with fail
 have AK : Hid (Ar ((w.alloc (.cells (List.map (Value.int .u8) key).toArray 33)).alloc (.cells (List.map (Value.int .u8) nonce).toArray 81)) w.heap.size 32 (List.map (Value.int .u8) key)) := (ar_box w _ 32 HK.out.map_len _).later (bel1 _ _)
 have AN : Hid (Ar ((w.alloc (.cells (List.map (Value.int .u8) key).toArray 33)).alloc (.cells (List.map (Value.int .u8) nonce).toArray 81)) (w.heap.size + 1) 12 (List.map (Value.int .u8) nonce)) := by have := (ar_box (w.alloc (.cells (List.map (Value.int .u8) key).toArray 33)) _ 12 HN.out.map_len 81); simpa [Hid] using this
 have HB : Hid (Below w.heap.size w ((w.alloc (.cells (List.map (Value.int .u8) key).toArray 33)).alloc (.cells (List.map (Value.int .u8) nonce).toArray 81))) := bel2 _ _ _
 generalize ((w.alloc (.cells (List.map (Value.int .u8) key).toArray 33)).alloc (.cells (List.map (Value.int .u8) nonce).toArray 81)) = W0 at *
 have k1 : w.heap.size < w.heap.size + 1 := by omega
 generalize hq1 : w.heap.size + 1 = q1 at *
 replace HRA := hidp (HRA.out.below HB.out)
 replace HRB := hidp (HRB.out.below HB.out)
 replace HG := hidp (HG.out.later HB.out)
 go_upto_region 4 with fail
 obtain ⟨W1, hW1⟩ : ∃ W, W = W0 := ⟨_, rfl⟩
 rw [← hW1] at AK AN HRA HRB HG HB ⊢
 clear hW1
 have sD : ∀ u, Ext W1 u → (convert 28 9 (.slice (some ⟨b, off + n, none⟩) 16 (cb - n))).run Tryz.prog u = .ok (.string (strOfNums (box.drop n))) u := fun u hu => str_of ((HRB.out.from n hnl 16 (cb - n) hn6.symm (by omega)).below hu)
 by_cases hq : tt6 key nonce ad (box.take n) = box.drop n
 ·have HEQ : Hid (er6 key nonce ad box = 0) := by unfold Hid; rw [HER.out, if_pos hq]
  refine wp_region_noPanic ?_
  refine wp_region_held_drew (S := Ext W1) (by kernel_rfl) (Ext.refl _).drew (fun hH => ?_)
  change wpAnyH _ _ _ _ _ _ #[false, false, false, false, false, false, false, false, false, false, false, false, false] _ _
  refine tkl 0 (.agg (List.map (Value.int .u8) key).toArray) ?_ (hy := by exact yieldsIf_load_mid (by rfl) 33 (.tmp 4) rfl w.heap.size 0 rfl (List.map (Value.int .u8) key) _ (fun u hu => range_later hu AK.out.rng) Tryz.underlying33 rfl hiK)
  try simp only [Act.put, List.setIfInBounds_toArray, List.set_cons_zero, List.set_cons_succ]
  refine tkl 1 (.agg (List.map (Value.int .u8) nonce).toArray) ?_ (hy := by exact yieldsIf_load_mid (by rfl) 81 (.tmp 5) rfl q1 0 rfl (List.map (Value.int .u8) nonce) _ (fun u hu => range_later hu AN.out.rng) Tryz.underlying81 rfl hiN)
  try simp only [Act.put, List.setIfInBounds_toArray, List.set_cons_zero, List.set_cons_succ]
  refine tk 2 ?_
  try simp only [Act.put, List.setIfInBounds_toArray, List.set_cons_zero, List.set_cons_succ]
  refine tk 3 ?_
  try simp only [Act.put, List.setIfInBounds_toArray, List.set_cons_zero, List.set_cons_succ]
  refine tk 6 ?_
  try simp only [Act.put, List.setIfInBounds_toArray, List.set_cons_zero, List.set_cons_succ]
  refine tk 7 ?_
  try simp only [Act.put, List.setIfInBounds_toArray, List.set_cons_zero, List.set_cons_succ]
  refine tk 8 ?_
  try simp only [Act.put, List.setIfInBounds_toArray, List.set_cons_zero, List.set_cons_succ]
  refine tk 9 ?_
  try simp only [Act.put, List.setIfInBounds_toArray, List.set_cons_zero, List.set_cons_succ]
  refine tk 10 ?_
  try simp only [Act.put, List.setIfInBounds_toArray, List.set_cons_zero, List.set_cons_succ]
  refine tk 11 ?_
  try simp only [Act.put, List.setIfInBounds_toArray, List.set_cons_zero, List.set_cons_succ]
  clear sD
  refine rdy 4 (fun K hK => ?_)
  go_simp
  refine (rtagof_c key nonce aa la ca ad (some ⟨b, off, none⟩) n cb (box.take n) HK.out HN.out _ (HRA.out.below hH) ((HRB.out.cut n hnl).below hH) (HG.out.later hH) (by omega)).mono ?_
  rintro e V5 ⟨g5, TG, rfl, HTG, RT, -, hb⟩
  refine hK.out _ _ (hH.trans hb) (fun hH' => ?_)
  clear hK K hH; have hH := hH'; clear hH'; try simp only [List.setIfInBounds_toArray, List.set]
  have sT := str_of RT.out
  refine rdy 5 (fun K hK => ?_)
  go_simp
  refine hK.out _ _ hH (fun hH' => ?_)
  clear hK K hH; have hH := hH'; clear hH'; try simp only [List.setIfInBounds_toArray, List.set]
  clear sT
  have hse : strOfNums TG = strOfNums (box.drop n) := by rw [HTG.out, hq]
  refine tk 12 ?_
  try simp only [Act.put, List.setIfInBounds_toArray, List.set_cons_zero, List.set_cons_succ]
  refine wpAnyH_done (by kernel_rfl) ?_ _
  refine NoPanic.normal ?_
  replace hb : Below W1.heap.size W1 V5 := (Below.refl _ _).drew.trans (hb.mono (Nat.le_refl _))
  clear hH RT HTG hse HRA HER
  replace AK := hidp (AK.out.later hb)
  replace AN := hidp (AN.out.later hb)
  replace HRB := hidp (HRB.out.below hb)
  replace HG := hidp (HG.out.later hb)
  replace HB := hidp (HB.out.trans (hb.mono HB.out.size))
  clear hb
  go_wp2_with (first
 | (refine wpList_load_mid rfl 33 (.tmp 4) rfl w.heap.size 0 rfl (List.map (Value.int .u8) key) _ AK.out.rng Tryz.underlying33 rfl hiK ?_)
 | (refine wpList_load_mid rfl 81 (.tmp 5) rfl q1 0 rfl (List.map (Value.int .u8) nonce) _ AN.out.rng Tryz.underlying81 rfl hiN ?_))
  refine (rapply_f key 1 nonce (some ⟨b, off, none⟩) n cb (box.take n) HK.out ⟨by decide, by decide⟩ HN.out _ (HRB.out.cut n hnl) (by omega) HG.out).mono ?_
  rintro e V7 ⟨ax, cx, X, rfl, HX, RX, hfr, hb⟩
  have HFR : Hid (Fr w.heap.size ax n) := hfr.mono HB.out.size
  clear hfr
  clear AK AN hiK hiN HRB HG
  replace HB := hidp (HB.out.trans (hb.mono HB.out.size))
  clear hb
  go_wp2
  go_ret2
  exact ⟨ax, n, cx, X, 0, rfl, .inl rfl, HEQ, by unfold Hid; rw [HOP.out HEQ.out, HX.out], RX, HFR.out, HB.out⟩
 ·have HNE : Hid (er6 key nonce ad box = 8) := by unfold Hid; rw [HER.out, if_neg hq]
  refine wp_region_noPanic ?_
  refine wp_region_held_drew (S := Ext W1) (by kernel_rfl) (Ext.refl _).drew (fun hH => ?_)
  change wpAnyH _ _ _ _ _ _ #[false, false, false, false, false, false, false, false, false, false, false, false, false] _ _
  refine tkl 0 (.agg (List.map (Value.int .u8) key).toArray) ?_ (hy := by exact yieldsIf_load_mid (by rfl) 33 (.tmp 4) rfl w.heap.size 0 rfl (List.map (Value.int .u8) key) _ (fun u hu => range_later hu AK.out.rng) Tryz.underlying33 rfl hiK)
  try simp only [Act.put, List.setIfInBounds_toArray, List.set_cons_zero, List.set_cons_succ]
  refine tkl 1 (.agg (List.map (Value.int .u8) nonce).toArray) ?_ (hy := by exact yieldsIf_load_mid (by rfl) 81 (.tmp 5) rfl q1 0 rfl (List.map (Value.int .u8) nonce) _ (fun u hu => range_later hu AN.out.rng) Tryz.underlying81 rfl hiN)
  try simp only [Act.put, List.setIfInBounds_toArray, List.set_cons_zero, List.set_cons_succ]
  refine tk 2 ?_
  try simp only [Act.put, List.setIfInBounds_toArray, List.set_cons_zero, List.set_cons_succ]
  refine tk 3 ?_
  try simp only [Act.put, List.setIfInBounds_toArray, List.set_cons_zero, List.set_cons_succ]
  refine tk 6 ?_
  try simp only [Act.put, List.setIfInBounds_toArray, List.set_cons_zero, List.set_cons_succ]
  refine tk 7 ?_
  try simp only [Act.put, List.setIfInBounds_toArray, List.set_cons_zero, List.set_cons_succ]
  refine tk 8 ?_
  try simp only [Act.put, List.setIfInBounds_toArray, List.set_cons_zero, List.set_cons_succ]
  refine tk 9 ?_
  try simp only [Act.put, List.setIfInBounds_toArray, List.set_cons_zero, List.set_cons_succ]
  refine tk 10 ?_
  try simp only [Act.put, List.setIfInBounds_toArray, List.set_cons_zero, List.set_cons_succ]
  refine tk 11 ?_
  try simp only [Act.put, List.setIfInBounds_toArray, List.set_cons_zero, List.set_cons_succ]
  clear sD
  refine rdy 4 (fun K hK => ?_)
  go_simp
  refine (rtagof_c key nonce aa la ca ad (some ⟨b, off, none⟩) n cb (box.take n) HK.out HN.out _ (HRA.out.below hH) ((HRB.out.cut n hnl).below hH) (HG.out.later hH) (by omega)).mono ?_
  rintro e V5 ⟨g5, TG, rfl, HTG, RT, -, hb⟩
  refine hK.out _ _ (hH.trans hb) (fun hH' => ?_)
  clear hK K hH; have hH := hH'; clear hH'; try simp only [List.setIfInBounds_toArray, List.set]
  have sT := str_of RT.out
  refine rdy 5 (fun K hK => ?_)
  go_simp
  refine hK.out _ _ hH (fun hH' => ?_)
  clear hK K hH; have hH := hH'; clear hH'; try simp only [List.setIfInBounds_toArray, List.set]
  clear sT
  have hbn : (strOfNums TG).toList ≠ (strOfNums (box.drop n)).toList := by
   intro h
   rw [ByteArray.toList_eq, ByteArray.toList_eq] at h
   exact hq (by rw [← HTG.out]; exact str_inj RT.out.byt (HBB.out.drop n) (ByteArray.ext (by rw [← Array.toList_inj]; exact h)))
  have hbe : ((strOfNums TG).toList == (strOfNums (box.drop n)).toList) = false := beq_eq_false_iff_ne.2 hbn
  refine tk 12 ?_
  try simp only [Act.put, List.setIfInBounds_toArray, List.set_cons_zero, List.set_cons_succ]
  refine wpAnyH_done (by kernel_rfl) ?_ _
  refine NoPanic.normal ?_
  replace hb : Below W1.heap.size W1 V5 := (Below.refl _ _).drew.trans (hb.mono (Nat.le_refl _))
  clear hH RT HTG hbe hbn HRA HER AK AN hiK hiN HRB HG
  replace HB := hidp (HB.out.trans (hb.mono HB.out.size))
  clear hb
  go_wp2
  go_ret2
  refine ⟨none, 0, 0, [], 2, rfl, .inr (.inr rfl), HNE, ?_, Rd.nil _ _ _ (fun _ => rfl), fr_nil, HB.out⟩
  unfold Hid
  rw [op6_not _ _ _ _ (by rw [HNE.out]; decide)]
set_option maxRecDepth 8000 in
theorem ropen_f (key nonce : List Int) (aa : Option Addr) (la ca : Nat) (ad : List Int) (ab : Option Addr) (lb cb : Nat) (box : List Int) (hk : Bn 32 key) (hn : Bn 12 nonce) (w : World) (hra : Rd w aa la ca ad) (hrb : Rd w ab lb cb box) (hg : Gr w) (hm : la + lb + 46 ≤ 2097152) :
  Calls Tryz.prog 49 #[(.agg (List.map (Value.int .u8) key).toArray), (.agg (List.map (Value.int .u8) nonce).toArray), .slice aa la ca, .slice ab lb cb] w fun e w' => ∃ a' m c X E, e = .returned (.tuple #[.slice a' m c, .int .i64 E]) ∧ (E = 0 ∨ E = 1 ∨ E = 2) ∧ Hid (er6 key nonce ad box = if E = 1 then 7 else if E = 2 then 8 else 0) ∧ Hid (X = op6 key nonce ad box) ∧ Hid (Rd w' a' m c X) ∧ Fr w.heap.size a' m ∧ Below w.heap.size w w' := by
 by_cases h : lb < 16
 ·exact ropen_short key nonce aa la ca ad ab lb cb box w hrb h
 ·obtain ⟨b, off, rfl, -⟩ := hrb.cell (by omega)
  exact ropen_long key nonce aa la ca ad b off lb cb box hk hn w hra hrb hg hm h
set_option maxRecDepth 8000 in
theorem ropen_c (key nonce : List Int) (aa : Option Addr) (la ca : Nat) (ad : List Int) (ab : Option Addr) (lb cb : Nat) (box : List Int) (hk : Bn 32 key) (hn : Bn 12 nonce) (w : World) (hra : Rd w aa la ca ad) (hrb : Rd w ab lb cb box) (hg : Gr w) (hm : la + lb + 46 ≤ 2097152) :
  Calls Tryz.prog 49 #[(.agg (List.map (Value.int .u8) key).toArray), (.agg (List.map (Value.int .u8) nonce).toArray), .slice aa la ca, .slice ab lb cb] w fun e w' => ∃ a' m c X E, e = .returned (.tuple #[.slice a' m c, .int .i64 E]) ∧ (E = 0 ∨ E = 1 ∨ E = 2) ∧ Hid (er6 key nonce ad box = if E = 1 then 7 else if E = 2 then 8 else 0) ∧ Hid (X = op6 key nonce ad box) ∧ Hid (Rd w' a' m c X) ∧ Below w.heap.size w w' := by
 refine (ropen_f key nonce aa la ca ad ab lb cb box hk hn w hra hrb hg hm).mono ?_
 rintro e w' ⟨a', m, c, X, E, rfl, h0, h1, h2, h3, -, h4⟩
 exact ⟨a', m, c, X, E, rfl, h0, h1, h2, h3, h4⟩
set_option maxRecDepth 8000 in
theorem Ext.up {a b c : World} (h : Ext a b) (k : Ext b c) : Ext a c := Ext.trans h k
end Go.Proofs.YtmibjgkakolhiaaGreatDoor
/-
 What the reference's errno does. No statement of the seat is proved here.
-/
namespace Go.Proofs.YtmibjgkakolhiaaGreatDoor
open Go.RowKit

set_option maxRecDepth 8000 in
theorem errno9_c (n : Int) (w : World) (hn : n = 0 ∨ n = 1 ∨ n = 2) :
  Calls Tryz.prog 50 #[.int .i64 n] w fun e w' => ∃ z, e = .returned (.int .i64 z) ∧ Hid (z = if n = 1 then 7 else if n = 2 then 8 else 0) ∧ w' = w := by
 rcases hn with rfl | rfl | rfl
 all_goals
  go_enter Tryz.func50, Tryz.ntmps50
  go_wp2
  go_ret
  exact ⟨_, rfl, rfl, rfl⟩
end Go.Proofs.YtmibjgkakolhiaaGreatDoor
/-
 What the reference's Cipher's Seal and Open do where it is embedded. No statement of the seat is proved here.
-/
namespace Go.Proofs.YtmibjgkakolhiaaGreatDoor
open Go.RowKit

set_option maxRecDepth 8000 in
set_option maxHeartbeats 2000000 in
theorem rseal9o_none (b o : Nat) (k : List Int) (n : Int) (aa : Option Addr) (la ca : Nat) (_ad : List Int) (at' : Option Addr) (lt ct : Nat) (_text : List Int) (w : World) (hs : Cy w b o k false n) :
  Calls Tryz.prog 30 #[.pointer (some ⟨b, o, none⟩), .slice aa la ca, .slice at' lt ct] w fun e w' => e = .returned (.tuple #[.slice at' lt ct, .int .i64 0]) ∧ w' = w := by
 obtain ⟨ch, -⟩ := hs.has
 clear hs
 go_enter Tryz.func30, Tryz.ntmps30
 go_wp2
 go_ret2
 exact ⟨rfl, rfl⟩
set_option maxRecDepth 8000 in
set_option maxHeartbeats 2000000 in
theorem rseal9o_last (b o : Nat) (k : List Int) (n : Int) (aa : Option Addr) (la ca : Nat) (_ad : List Int) (at' : Option Addr) (lt ct : Nat) (_text : List Int) (w : World) (hs : Cy w b o k true n) (hn : n = 18446744073709551615) :
  Calls Tryz.prog 30 #[.pointer (some ⟨b, o, none⟩), .slice aa la ca, .slice at' lt ct] w fun e w' => e = .returned (.tuple #[.slice none 0 0, .int .i64 9]) ∧ w' = w := by
 subst hn
 obtain ⟨ch, -⟩ := hs.has
 obtain ⟨cn, -⟩ := hs.nonce
 clear hs
 go_enter Tryz.func30, Tryz.ntmps30
 go_wp2
 go_ret2
 exact ⟨rfl, rfl⟩
set_option maxRecDepth 8000 in
set_option maxHeartbeats 4000000 in
theorem rseal9o_yes (b o : Nat) (k : List Int) (n : Int) (aa : Option Addr) (la ca : Nat) (ad : List Int) (at' : Option Addr) (lt ct : Nat) (text : List Int) (w : World) (hs : Cy w b o k true n) (hn : n ≠ 18446744073709551615) (hra : Rd w aa la ca ad) (hrt : Rd w at' lt ct text) (hg : Gr w) (hb0 : 1 < b) (hm : la + lt + 46 ≤ 2097152) :
  Calls Tryz.prog 30 #[.pointer (some ⟨b, o, none⟩), .slice aa la ca, .slice at' lt ct] w fun e w' => ∃ a' m c' X n', e = .returned (.tuple #[.slice a' m c', .int .i64 0]) ∧ Hid (m = lt + 16) ∧ Hid (X = se6 k (nn6 n) ad text) ∧ Hid (n' = n + 1) ∧ Hid (Rd w' a' m c' X) ∧ Hid (Cy w' b o k true n') ∧ ExtR b o 34 w w' ∧ Kp w w' ∧ Fr w.heap.size a' m := by
 have HS : Hid (Cy w b o k true n) := hs
 have HRA : Hid (Rd w aa la ca ad) := hra
 have HRT : Hid (Rd w at' lt ct text) := hrt
 have HBT : Hid (Byt text) := hrt.byt
 have HG : Hid (Gr w) := hg
 have HN0 : Hid (0 ≤ n ∧ n < 18446744073709551616) := hs.wn
 have hn1 : n + 1 < 18446744073709551616 := by have := hs.wn; omega
 have hw1 : IntKind.u64.wrap (n + 1) = n + 1 := by rw [IntKind.wrap_u64]; have := hs.wn; omega
 obtain ⟨n', hn'⟩ : ∃ x, x = n + 1 := ⟨_, rfl⟩
 have HN1 : Hid (n' = n + 1) := hn'
 rw [← hn'] at hn1
 have hlo : 0 ≤ n' := by have := hs.wn; omega
 rw [← hn', show IntKind.u64.wrap n' = IntKind.u64.wrap (n + 1) by rw [hn']] at hw1
 have hw2 : IntKind.u64.wrap (n' - 1) = n := by rw [IntKind.wrap_u64, hn']; have := hs.wn; omega
 obtain ⟨ch, -⟩ := hs.has
 obtain ⟨cn, fn⟩ := hs.nonce
 obtain ⟨_, _, hiK⟩ := bn32_cells hs.bk
 clear hs hra hrt hg hn'
 go_enter Tryz.func30, Tryz.ntmps30
 go_upto_region 6 with fail
 replace HRA : Hid (Rd (w.setCell ⟨b, o + 33, none⟩ (.int .u64 n')) aa la ca ad) := HRA.out.not_here cn (fun m h => by cases h) _
 replace HRT : Hid (Rd (w.setCell ⟨b, o + 33, none⟩ (.int .u64 n')) at' lt ct text) := HRT.out.not_here cn (fun m h => by cases h) _
 replace HS : Hid (Cy (w.setCell ⟨b, o + 33, none⟩ (.int .u64 n')) b o k true n') := HS.out.setN ⟨hlo, hn1⟩
 replace HG : Hid (Gr (w.setCell ⟨b, o + 33, none⟩ (.int .u64 n'))) := HG.out.set b (o + 33) hb0 _
 have HE : Hid (ExtR b o 34 w (w.setCell ⟨b, o + 33, none⟩ (.int .u64 n'))) := (ExtR.refl b o 34 w).set (o + 33) (by omega) (by omega) _
 have HKP : Hid (Kp w (w.setCell ⟨b, o + 33, none⟩ (.int .u64 n'))) := fun a l c x hr => hr.not_here cn (fun m h => by cases h) _
 obtain ⟨W1, hW1⟩ : ∃ W, W = (w.setCell ⟨b, o + 33, none⟩ (.int .u64 n')) := ⟨_, rfl⟩
 have HW1 : Hid (w.heap.size ≤ W1.heap.size) := by unfold Hid; rw [hW1, World.size_setCell]; exact Nat.le_refl _
 try rw [hw1]
 rw [← hW1] at HRA HRT HS HG HE HKP ⊢
 clear hW1 hw1 ch cn fn hlo hn1
 obtain ⟨cn, fn⟩ := HS.out.nonce
 have xx : ∀ u, Ext W1 u → u.cell? ⟨b, o + 33, none⟩ = some (.int .u64 n') := fun u hu => hu.cell cn
 refine wp_region_noPanic ?_
 refine wp_region_held_drew (S := Ext W1) (by kernel_rfl) (Ext.refl _).drew (fun hH => ?_)
 change wpAnyH _ _ _ _ _ _ #[false, false, false, false, false, false, false, false, false, false, false, false, false, false, false] _ _
 refine tk 0 ?_
 try simp only [Act.put, List.setIfInBounds_toArray, List.set_cons_zero, List.set_cons_succ]
 refine tk 1 ?_
 try simp only [Act.put, List.setIfInBounds_toArray, List.set_cons_zero, List.set_cons_succ]
 refine tk 2 ?_
 try simp only [Act.put, List.setIfInBounds_toArray, List.set_cons_zero, List.set_cons_succ]
 refine tkl 3 (.agg (List.map (Value.int .u8) k).toArray) ?_ (hy := by exact yieldsIf_load_mid (by rfl) 33 (.tmp 28) rfl b (o + 1) rfl (List.map (Value.int .u8) k) _ (fun u hu => range_later hu HS.out.key) Tryz.underlying33 rfl hiK)
 try simp only [Act.put, List.setIfInBounds_toArray, List.set_cons_zero, List.set_cons_succ]
 refine tk 4 ?_
 try simp only [Act.put, List.setIfInBounds_toArray, List.set_cons_zero, List.set_cons_succ]
 refine tk 5 ?_
 try simp only [Act.put, List.setIfInBounds_toArray, List.set_cons_zero, List.set_cons_succ]
 refine tk 6 ?_
 try simp only [Act.put, List.setIfInBounds_toArray, List.set_cons_zero, List.set_cons_succ]
 refine tk 7 ?_ (hy := by (intro u hu; (have hx := xx u hu; go_simp) <;> with_reducible rfl))
 try simp only [Act.put, List.setIfInBounds_toArray, List.set_cons_zero, List.set_cons_succ]
 refine tk 8 ?_
 try simp only [Act.put, List.setIfInBounds_toArray, List.set_cons_zero, List.set_cons_succ]
 refine tk 10 ?_
 try simp only [Act.put, List.setIfInBounds_toArray, List.set_cons_zero, List.set_cons_succ]
 refine tk 11 ?_
 try simp only [Act.put, List.setIfInBounds_toArray, List.set_cons_zero, List.set_cons_succ]
 refine rdy 9 (fun K hK => ?_)
 go_simp
 refine (rnonce_c n HN0.out.1 HN0.out.2 _).mono ?_
 rintro e V1 ⟨N, rfl, HN, HNn, hb⟩
 refine hK.out _ _ (hH.trans hb) (fun hH' => ?_)
 clear hK K hH; have hH := hH'; clear hH'; try simp only [List.setIfInBounds_toArray, List.set]
 clear hb
 refine rdy 12 (fun K hK => ?_)
 go_simp
 refine (rseal_c k N aa la ca ad at' lt ct text HS.out.bk HNn.out _ (HRA.out.below hH) (HRT.out.below hH) (HG.out.later hH) hm).mono ?_
 rintro e V2 ⟨a', m, c', X, rfl, Hm, HX, OX, hb⟩
 have hbx : Byt X := by rw [HX.out]; exact se6_byt _ _ _ HBT.out
 have RX := rd_own hbx OX.out
 have HFR : Hid (Fr W1.heap.size a' m) := (fr_owns OX.out).mono hH.size
 refine hK.out _ _ (hH.trans hb) (fun hH' => ?_)
 clear hK K hH; have hH := hH'; clear hH'; try simp only [List.setIfInBounds_toArray, List.set]
 refine tk 13 ?_
 try simp only [Act.put, List.setIfInBounds_toArray, List.set_cons_zero, List.set_cons_succ]
 refine tk 14 ?_
 try simp only [Act.put, List.setIfInBounds_toArray, List.set_cons_zero, List.set_cons_succ]
 refine wpAnyH_done (by kernel_rfl) ?_ _
 refine NoPanic.normal ?_
 have HS0 := HS
 replace HS := hidp (HS.out.later hH)
 replace HE := hidp (HE.out.trans HS0.out.lt hH)
 replace HKP : Hid (Kp w V2) := fun a l c x hr => (HKP.out a l c x hr).below hH
 go_wp2
 go_ret2
 exact ⟨a', m, c', X, n', rfl, Hm, by rw [HN.out] at HX; exact HX, HN1, RX, HS, HE.out, HKP.out, HFR.out.mono HW1.out⟩
set_option maxRecDepth 8000 in
set_option maxHeartbeats 2000000 in
theorem ropen9o_none (b o : Nat) (k : List Int) (n : Int) (aa : Option Addr) (la ca : Nat) (_ad : List Int) (ab : Option Addr) (lb cb : Nat) (_box : List Int) (w : World) (hs : Cy w b o k false n) :
  Calls Tryz.prog 32 #[.pointer (some ⟨b, o, none⟩), .slice aa la ca, .slice ab lb cb] w fun e w' => e = .returned (.tuple #[.slice ab lb cb, .int .i64 0]) ∧ w' = w := by
 obtain ⟨ch, -⟩ := hs.has
 clear hs
 go_enter Tryz.func32, Tryz.ntmps32
 go_wp2
 go_ret2
 exact ⟨rfl, rfl⟩
set_option maxRecDepth 8000 in
set_option maxHeartbeats 2000000 in
theorem ropen9o_last (b o : Nat) (k : List Int) (n : Int) (aa : Option Addr) (la ca : Nat) (_ad : List Int) (ab : Option Addr) (lb cb : Nat) (_box : List Int) (w : World) (hs : Cy w b o k true n) (hn : n = 18446744073709551615) :
  Calls Tryz.prog 32 #[.pointer (some ⟨b, o, none⟩), .slice aa la ca, .slice ab lb cb] w fun e w' => e = .returned (.tuple #[.slice none 0 0, .int .i64 9]) ∧ w' = w := by
 subst hn
 obtain ⟨ch, -⟩ := hs.has
 obtain ⟨cn, -⟩ := hs.nonce
 clear hs
 go_enter Tryz.func32, Tryz.ntmps32
 go_wp2
 go_ret2
 exact ⟨rfl, rfl⟩
set_option maxRecDepth 8000 in
set_option maxHeartbeats 4000000 in
theorem ropen9o_yes (b o : Nat) (k : List Int) (n : Int) (aa : Option Addr) (la ca : Nat) (ad : List Int) (ab : Option Addr) (lb cb : Nat) (box : List Int) (w : World) (hs : Cy w b o k true n) (hn : n ≠ 18446744073709551615) (hra : Rd w aa la ca ad) (hrb : Rd w ab lb cb box) (hg : Gr w) (hm : la + lb + 46 ≤ 2097152) :
  Calls Tryz.prog 32 #[.pointer (some ⟨b, o, none⟩), .slice aa la ca, .slice ab lb cb] w fun e w' => ∃ a' m c X E n', e = .returned (.tuple #[.slice a' m c, .int .i64 E]) ∧ Hid (E = er6 k (nn6 n) ad box) ∧ Hid (X = op6 k (nn6 n) ad box) ∧ Hid (n' = if E = 0 then n + 1 else n) ∧ Hid (Rd w' a' m c X) ∧ Hid (Cy w' b o k true n') ∧ ExtR b o 34 w w' ∧ Kp w w' ∧ Fr w.heap.size a' m := by
 have HS : Hid (Cy w b o k true n) := hs
 have HRA : Hid (Rd w aa la ca ad) := hra
 have HRB : Hid (Rd w ab lb cb box) := hrb
 have HG : Hid (Gr w) := hg
 have hn1 : n + 1 < 18446744073709551616 := by have := hs.wn; omega
 have hw1 : IntKind.u64.wrap (n + 1) = n + 1 := by rw [IntKind.wrap_u64]; have := hs.wn; omega
 obtain ⟨n', hn'⟩ : ∃ x, x = n + 1 := ⟨_, rfl⟩
 have HN1 : Hid (n' = n + 1) := hn'
 rw [← hn'] at hn1
 have hlo : 0 ≤ n' := by have := hs.wn; omega
 rw [← hn', show IntKind.u64.wrap n' = IntKind.u64.wrap (n + 1) by rw [hn']] at hw1
 obtain ⟨ch, -⟩ := hs.has
 obtain ⟨cn, -⟩ := hs.nonce
 obtain ⟨_, _, hiK⟩ := bn32_cells hs.bk
 clear hs hra hrb hg hn'
 go_enter Tryz.func32, Tryz.ntmps32
 go_upto_region 5 with fail
 have xx : ∀ u, Ext w u → u.cell? ⟨b, o + 33, none⟩ = some (.int .u64 n) := fun u hu => hu.cell cn
 refine wp_region_noPanic ?_
 refine wp_region_held_drew (S := Ext w) (by kernel_rfl) (Ext.refl _).drew (fun hH => ?_)
 change wpAnyH _ _ _ _ _ _ #[false, false, false, false, false, false, false, false, false, false, false, false, false, false, false, false, false] _ _
 refine tk 0 ?_
 try simp only [Act.put, List.setIfInBounds_toArray, List.set_cons_zero, List.set_cons_succ]
 refine tk 1 ?_
 try simp only [Act.put, List.setIfInBounds_toArray, List.set_cons_zero, List.set_cons_succ]
 refine tk 2 ?_
 try simp only [Act.put, List.setIfInBounds_toArray, List.set_cons_zero, List.set_cons_succ]
 refine tkl 3 (.agg (List.map (Value.int .u8) k).toArray) ?_ (hy := by exact yieldsIf_load_mid (by rfl) 33 (.tmp 24) rfl b (o + 1) rfl (List.map (Value.int .u8) k) _ (fun u hu => range_later hu HS.out.key) Tryz.underlying33 rfl hiK)
 try simp only [Act.put, List.setIfInBounds_toArray, List.set_cons_zero, List.set_cons_succ]
 refine tk 4 ?_
 try simp only [Act.put, List.setIfInBounds_toArray, List.set_cons_zero, List.set_cons_succ]
 refine tk 5 ?_
 try simp only [Act.put, List.setIfInBounds_toArray, List.set_cons_zero, List.set_cons_succ]
 refine tk 6 ?_
 try simp only [Act.put, List.setIfInBounds_toArray, List.set_cons_zero, List.set_cons_succ]
 refine tk 7 ?_ (hy := by (intro u hu; (have hx := xx u hu; go_simp) <;> with_reducible rfl))
 try simp only [Act.put, List.setIfInBounds_toArray, List.set_cons_zero, List.set_cons_succ]
 refine tk 9 ?_
 try simp only [Act.put, List.setIfInBounds_toArray, List.set_cons_zero, List.set_cons_succ]
 refine tk 10 ?_
 try simp only [Act.put, List.setIfInBounds_toArray, List.set_cons_zero, List.set_cons_succ]
 refine rdy 8 (fun K hK => ?_)
 go_simp
 refine (rnonce_c n HS.out.wn.1 HS.out.wn.2 _).mono ?_
 rintro e V1 ⟨N, rfl, HN, HNn, hb⟩
 refine hK.out _ _ (hH.trans hb) (fun hH' => ?_)
 clear hK K hH; have hH := hH'; clear hH'; try simp only [List.setIfInBounds_toArray, List.set]
 clear hb
 refine rdy 11 (fun K hK => ?_)
 go_simp
 refine (ropen_f k N aa la ca ad ab lb cb box HS.out.bk HNn.out _ (HRA.out.below hH) (HRB.out.below hH) (HG.out.later hH) hm).mono ?_
 rintro e V2 ⟨a', m, c, X, E, rfl, hE3, HE6, HX, RX, hfr, hb⟩
 have HFR : Hid (Fr w.heap.size a' m) := hfr.mono hH.size
 clear hfr
 refine hK.out _ _ (hH.trans hb) (fun hH' => ?_)
 clear hK K hH; have hH := hH'; clear hH'; try simp only [List.setIfInBounds_toArray, List.set]
 refine tk 12 ?_
 try simp only [Act.put, List.setIfInBounds_toArray, List.set_cons_zero, List.set_cons_succ]
 refine tk 13 ?_
 try simp only [Act.put, List.setIfInBounds_toArray, List.set_cons_zero, List.set_cons_succ]
 refine tk 14 ?_
 try simp only [Act.put, List.setIfInBounds_toArray, List.set_cons_zero, List.set_cons_succ]
 refine tk 15 ?_
 try simp only [Act.put, List.setIfInBounds_toArray, List.set_cons_zero, List.set_cons_succ]
 refine tk 16 ?_
 try simp only [Act.put, List.setIfInBounds_toArray, List.set_cons_zero, List.set_cons_succ]
 refine wpAnyH_done (by kernel_rfl) ?_ _
 refine NoPanic.normal ?_
 have HLT : Hid (b < w.heap.size) := HS.out.lt
 replace HS := hidp (HS.out.later hH)
 replace HRX : Hid (Rd V2 a' m c X) := RX
 have HE : Hid (ExtR b o 34 w V2) := ExtR.of hH HLT.out
 rw [HN.out] at HE6 HX
 have HKP : Hid (Kp w V2) := Kp.below hH
 clear HRA HRB xx cn ch hb RX HG
 obtain ⟨cn, fn⟩ := HS.out.nonce
 have HE3 : Hid (E = 0 ∨ E = 1 ∨ E = 2) := hE3
 clear hE3
 by_cases h0 : E = 0
 ·subst h0
  have HS2 : Hid (Cy (V2.setCell ⟨b, o + 33, none⟩ (.int .u64 n')) b o k true n') := HS.out.setN ⟨hlo, hn1⟩
  have HE2 : Hid (ExtR b o 34 w (V2.setCell ⟨b, o + 33, none⟩ (.int .u64 n'))) := HE.out.set (o + 33) (by omega) (by omega) _
  have HR2 : Hid (Rd (V2.setCell ⟨b, o + 33, none⟩ (.int .u64 n')) a' m c X) := HRX.out.not_here cn (fun m h => by cases h) _
  have HK2 : Hid (Kp w (V2.setCell ⟨b, o + 33, none⟩ (.int .u64 n'))) := fun a l c x hr => (HKP.out a l c x hr).not_here cn (fun m h => by cases h) _
  clear HS HRX HE hn1 hlo HKP
  go_wp2_with fail
  refine (errno9_c 0 _ (.inl rfl)).mono ?_
  rintro e V3 ⟨z, rfl, Hz, hw⟩
  rw [hw]
  clear hw V3
  have hz : z = 0 := Hz.out
  subst hz
  go_wp2
  go_ret2
  exact ⟨a', m, c, X, 0, n', rfl, HE6.out.symm, HX, by unfold Hid; rw [if_pos rfl]; exact HN1.out, HR2, HS2, HE2.out, HK2.out, HFR.out⟩
 ·clear hn1 hlo hw1 cn fn
  have hE12 : E = 0 ∨ E = 1 ∨ E = 2 := HE3.out
  go_wp2_with fail
  refine (errno9_c E _ hE12).mono ?_
  rintro e V3 ⟨z, rfl, Hz, hw⟩
  rw [hw]
  clear hw V3
  have hz : z = er6 k (nn6 n) ad box := by rw [Hz.out, HE6.out]
  have HZ : Hid (z = er6 k (nn6 n) ad box) := hz
  have hz0 : z ≠ 0 := by
   rw [Hz.out]
   rcases hE12 with h | h | h
   ·exact absurd h h0
   ·rw [h]; decide
   ·rw [h]; decide
  clear hz Hz HE6 hE12 HE3
  go_wp2
  go_ret2
  exact ⟨a', m, c, X, z, n, rfl, HZ, HX, by unfold Hid; rw [if_neg hz0], HRX, HS, HE.out, HKP.out, HFR.out⟩
end Go.Proofs.YtmibjgkakolhiaaGreatDoor
