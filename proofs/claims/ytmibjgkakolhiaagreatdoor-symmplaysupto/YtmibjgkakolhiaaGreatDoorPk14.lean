/-
  Several texts of one's own, laid together. No statement of the seat is proved here.
-/
import Derived.Test.YtmibjgkakolhiaaGreatDoorPk4
import Derived.Test.YtmibjgkakolhiaaGreatDoorPk10
import Derived.Test.YtmibjgkakolhiaaGreatDoorPk3
/-
 What blake's New and (*Hash).Write do. No statement of the seat is proved here.
-/
namespace Go.Proofs.YtmibjgkakolhiaaGreatDoor
open Go.RowKit

set_option maxRecDepth 8000 in
set_option maxHeartbeats 1000000 in
theorem new_c (w : World) (hg : Gb w) :
  Calls Tryz.prog 41 #[] w fun e w' => e = .returned (.pointer (some ⟨w.heap.size, 0, none⟩)) ∧ Hid (Hx w' w.heap.size []) ∧ Below w.heap.size w w' := by
 have hi8 := (st_cells iv7_w).2.2
 go_enter Tryz.func41, Tryz.ntmps41
 go_upto_region 2 with (first | (refine wpList_load_mid rfl 64 (.global 3) rfl 3 0 rfl (List.map (Value.int .u32) iv7) _ hg.iv Tryz.underlying64 rfl hi8 ?_) | (refine wpList_build rfl rfl rfl ?_))
 have HS : Hid (Hs (w.alloc (.cells hn7.toArray 94)) w.heap.size iv7 0 z64w 0) := ⟨ar_box w hn7 74 (hc7_len rfl rfl) _, iv7_w, by decide, z64w_bn, by decide⟩
 have HB : Hid (Below w.heap.size w (w.alloc (.cells hn7.toArray 94))) := bel1 _ _
 obtain ⟨V, hV⟩ : ∃ V, V = w.alloc (.cells hn7.toArray 94) := ⟨_, rfl⟩
 obtain ⟨b, hb⟩ : ∃ b, b = w.heap.size := ⟨_, rfl⟩
 rw [← hV] at HS HB ⊢
 rw [← hb] at HS ⊢
 have HQ : Hid (b = w.heap.size) := hb
 clear hb
 obtain ⟨x, cx, fx, rx, HX⟩ := HS.out.word 0 (by decide)
 have xx : ∀ u, Ext V u → u.cell? ⟨b, 0, none⟩ = some (.int .u32 x) := fun u hu => hu.cell cx
 clear hV hi8 hg
 refine wp_region_noPanic ?_
 refine wp_region_two (k := 9) (Ext V) (ExtB b V) (by kernel_rfl) (Ext.refl _).drew (fun hH => ?_)
 change wpAnyK _ _ _ _ _ _ _ _ #[false, false, false, false, false, false, false, false, false, false] _ _
 refine tka 0 ?_
 try simp only [Act.put, List.setIfInBounds_toArray, List.set_cons_zero, List.set_cons_succ]
 refine tka 1 ?_
 try simp only [Act.put, List.setIfInBounds_toArray, List.set_cons_zero, List.set_cons_succ]
 refine tka 2 ?_
 try simp only [Act.put, List.setIfInBounds_toArray, List.set_cons_zero, List.set_cons_succ]
 refine tka 3 ?_
 try simp only [Act.put, List.setIfInBounds_toArray, List.set_cons_zero, List.set_cons_succ]
 refine tka 4 ?_ (hy := by (intro u hu; (have hx := xx u hu; go_simp) <;> with_reducible rfl))
 try simp only [Act.put, List.setIfInBounds_toArray, List.set_cons_zero, List.set_cons_succ]
 refine tka 5 ?_
 try simp only [Act.put, List.setIfInBounds_toArray, List.set_cons_zero, List.set_cons_succ]
 refine tkk 6 (fun _ h => h.extB _) ?_
 try simp only [Act.put, List.setIfInBounds_toArray, List.set_cons_zero, List.set_cons_succ]
 refine tkk 7 (fun _ h => h.extB _) ?_
 try simp only [Act.put, List.setIfInBounds_toArray, List.set_cons_zero, List.set_cons_succ]
 refine tka 8 ?_
 try simp only [Act.put, List.setIfInBounds_toArray, List.set_cons_zero, List.set_cons_succ]
 clear xx
 refine wpAnyK_last (k := 9) (o := ?o9n2) ?h9n2 (by kernel_rfl) (fun K hK => ?_)
 case h9n2 => simp only [List.getElem?_toArray]; rfl
 go_simp
 refine hK.out _ _ ((hH.extB _).set 0 _) (fun hH' => ?_)
 clear hK K hH; have hH := hH'; clear hH'; try simp only [List.setIfInBounds_toArray, List.set]
 refine wpAnyH_done (by kernel_rfl) ?_ _
 refine NoPanic.normal ?_
 have hh : Hx (V.setCell ⟨b, 0, none⟩ (.int .u32 (xr7 x 16842784))).drew b [] := ⟨by
  have := (HS.out.setSt 0 (by decide) (xr7_w rx (b := 16842784) ⟨by decide, by decide⟩)).drew
  rw [HX.out] at this ⊢
  exact this, Byt.nil⟩
 have hbel : Below w.heap.size w (V.setCell ⟨b, 0, none⟩ (.int .u32 (xr7 x 16842784))).drew := (HB.out.setCell (p := ⟨b, 0, none⟩) (by have := HQ.out; dsimp only; omega) _).drew
 clear HS HB hH cx fx
 go_wp2
 go_ret
 rw [HQ.out] at hh hbel ⊢
 exact ⟨rfl, hh, hbel⟩

set_option maxRecDepth 8000 in
set_option maxHeartbeats 4000000 in
theorem write_c (b : Nat) (l : List Int) (a : Option Addr) (len cap : Nat) (x : List Int) (w : World) (hx : Hx w b l) (hg : Gb w) (g0 : 3 < b) (g1 : 4 < b) (hr : Rd w a len cap x) (hne : 0 < len → ∀ p, a = some p → p.block ≠ b) (hlen : l.length + len ≤ 4611686018427387904) :
  Calls Tryz.prog 42 #[.pointer (some ⟨b, 0, none⟩), .slice a len cap] w fun e w' => e = .returned (.tuple #[]) ∧ Hid (Hx w' b (l ++ x)) ∧ ExtB b w w' := by
 have HXL : Hid (x.length = len) := hr.hlen
 have HBX : Hid (Byt x) := hr.byt
 have H0 : Hid (Hx w b (l ++ x.take 0)) := by unfold Hid; rw [List.take_zero, List.append_nil]; exact hx
 have HR0 : Hid (Rd w a len cap (x.drop 0)) := by unfold Hid; rw [List.drop_zero]; exact hr
 have HN0 : Hid (0 < len → ∀ p, a = some p → p.block ≠ b) := hne
 have HG0 : Hid (Gb w) := hg
 clear hx hr hne hg
 go_enter Tryz.func42, Tryz.ntmps42
 go_wp2
 go_loopw [1] (fun tv wr => ∃ (j r : Nat) (a' : Option Addr) (c' : Nat), tv = .slice a' r c' ∧ j + r = len ∧ Hid (Rd wr a' r c' (x.drop j)) ∧ Hid (0 < r → ∀ p, a' = some p → p.block ≠ b) ∧ Hid (Hx wr b (l ++ x.take j)) ∧ Hid (Gb wr) ∧ Hid (ExtB b w wr)) (fun tv _ => slen tv)
 case atStart => exact ⟨0, len, a, cap, rfl, by omega, HR0, HN0, H0, HG0, ExtB.refl _ _⟩
 case round =>
  clear H0 HR0 HN0 HG0
  obtain ⟨j, r, a', c', rfl, hjr, HR, HN, H, HG, HE⟩ := hrel
  by_cases hlt : 0 < r
  ·have q1 : (0 : Int) < r := by omega
   obtain ⟨ba, off, rfl, -⟩ := HR.out.cell hlt
   have hba : ba ≠ b := HN.out hlt _ rfl
   obtain ⟨U, hU⟩ : ∃ U, U = l ++ x.take j := ⟨_, rfl⟩
   have HU : Hid (U = l ++ x.take j) := hU
   rw [← hU] at H
   have HBU : Hid (Byt (l ++ x.take j)) := by rw [← hU]; exact H.out.byt
   have hUl : U.length = l.length + j := by rw [hU, List.length_append, List.length_take, HXL.out]; omega
   clear hU HN
   obtain ⟨ck, -⟩ := H.out.h.held
   obtain ⟨hd, HD⟩ : ∃ n, Hid (n = U.length - 64 * kb7 U.length) := ⟨_, rfl⟩
   rw [← HD.out] at ck
   go_upto_if 12 with fail
   go_cut [] from 8 to 35 (fun wx => Hid (Hp wx b U (U.length / 64)) ∧ Hid (ExtB b wr wx))
   case first =>
    by_cases hk : hd = 64
    ·have hte : ((hd : Int) == 64) = true := by rw [hk]; rfl
     have hk2 : Hid (U.length - 64 * kb7 U.length = 64) := by unfold Hid; rw [← HD.out, hk]
     clear hk
     go_wp2_with fail
     refine (press_c b _ _ _ _ false _ H.out.h HG.out g0 g1 (by have := kb7_le U.length; omega)).mono ?_
     rintro e V ⟨rfl, HP, hb⟩
     have HP' := hp_pressed (kb7_full hk2.out).1 HP.out
     rw [← (kb7_full hk2.out).2] at HP'
     go_wp2_with fail
     go_meet
     exact ⟨HP', hb⟩
    ·have hte : ((hd : Int) == 64) = false := by simpa using (show ¬ (hd : Int) = 64 by omega)
     have HP' : Hp wr b U (U.length / 64) := by
      have := H.out.h
      rw [kb7_div (by rw [← HD.out]; exact hk)] at this
      exact this
     go_wp2_with fail
     go_meet
     exact ⟨HP', ExtB.refl _ _⟩
   case rest =>
    obtain ⟨HP, HE2⟩ := hcut
    clear ck HD hd H
    have HG2 : Hid (Gb wc) := HG.out.extb HE2.out g0 g1
    have HR2 : Hid (Rd wc (some ⟨ba, off, none⟩) r c' (x.drop j)) := HR.out.extb HE2.out hba
    replace HE : Hid (ExtB b w wc) := HE.out.comp HE2.out
    clear HG HR HE2
    obtain ⟨o, HO⟩ : ∃ o, Hid (o = U.length % 64) := ⟨_, rfl⟩
    have ho : o < 64 := by rw [HO.out]; omega
    have hoh : U.length - 64 * (U.length / 64) = o := by rw [HO.out]; omega
    have HP2 : Hid (Hs wc b (hb7 U (U.length / 64)) ((64 * (U.length / 64) : Nat) : Int) (pad7 (U.drop (64 * (U.length / 64)))) o) := by
     have := HP.out
     unfold Hp at this
     rw [hoh] at this
     exact this
    clear HP hoh
    obtain ⟨ck, fk⟩ := HP2.out.held
    obtain ⟨m, HM⟩ : ∃ m, Hid (m = min r (64 - o)) := ⟨_, rfl⟩
    have hm0 : 0 < m := by rw [HM.out]; omega
    have hm1 : m ≤ r := by rw [HM.out]; omega
    have hm2 : o + m ≤ 64 := by rw [HM.out]; omega
    have hle := HR2.out.hle
    have hcp := fun ty => copy_c wc.drew b (9 + o) (64 - o) (64 - o) ⟨ba, off, none⟩ r c' (x.drop j) HR2.out.drew m (by rw [HM.out]) (there_part HP2.out.ar.all (9 + o) m (by omega)) ty
    have gi1 : (o : Int) ≤ 64 := by omega
    have gi2 : 0 ≤ (o : Int) := by omega
    have gn : ¬ 64 = o := by omega
    obtain ⟨y, HY⟩ : ∃ y, Hid (y = (x.drop j).take m) := ⟨_, rfl⟩
    rw [← HY.out] at hcp
    have hyl : y.length = m := by rw [HY.out, List.length_take, HR2.out.hlen]; omega
    have HYB : Hid (Byt y) := by unfold Hid; rw [HY.out]; exact (HBX.out.drop j).take m
    go_upto_region 3 with fail
    refine wp_region_noPanic ?_
    refine wp_region_held_drew (S := (fun u => ExtB b wc u ∧ u.cell? ⟨b, 73, none⟩ = some (.int .i64 o))) (by kernel_rfl) ⟨(ExtB.refl _ _).drew, ck⟩ (fun hH => ?_)
    change wpAnyH _ _ _ _ _ _ #[false, false, false, false, false, false, false, false, false, false, false] _ _
    refine tk 0 ?_
    try simp only [Act.put, List.setIfInBounds_toArray, List.set_cons_zero, List.set_cons_succ]
    refine tk 1 ?_
    try simp only [Act.put, List.setIfInBounds_toArray, List.set_cons_zero, List.set_cons_succ]
    refine tk 2 ?_
    try simp only [Act.put, List.setIfInBounds_toArray, List.set_cons_zero, List.set_cons_succ]
    refine tk 3 ?_
    try simp only [Act.put, List.setIfInBounds_toArray, List.set_cons_zero, List.set_cons_succ]
    refine tk 4 ?_
    try simp only [Act.put, List.setIfInBounds_toArray, List.set_cons_zero, List.set_cons_succ]
    refine tk 5 ?_
    try simp only [Act.put, List.setIfInBounds_toArray, List.set_cons_zero, List.set_cons_succ]
    refine tk 6 ?_ (hy := by (intro u hu; (have hx := hu.2; go_simp) <;> with_reducible rfl))
    try simp only [Act.put, List.setIfInBounds_toArray, List.set_cons_zero, List.set_cons_succ]
    refine tk 7 ?_
    try simp only [Act.put, List.setIfInBounds_toArray, List.set_cons_zero, List.set_cons_succ]
    refine tk 8 ?_
    try simp only [Act.put, List.setIfInBounds_toArray, List.set_cons_zero, List.set_cons_succ]
    have HS : Hid (Hs (wc.drew.setCells b (9 + o) (List.map (Value.int .u8) y)) b (hb7 U (U.length / 64)) ((64 * (U.length / 64) : Nat) : Int) ((pad7 (U.drop (64 * (U.length / 64)))).take o ++ (y ++ (pad7 (U.drop (64 * (U.length / 64)))).drop (o + y.length))) o) := HP2.out.drew.part o y (by omega) HYB.out
    refine rdy 9 (fun K hK => ?_)
    go_simp
    refine hK.out _ _ ⟨extB_setCells _ _ _ hH.1, HS.out.held.1⟩ (fun hH' => ?_)
    clear hK K hH; have hH := hH'; clear hH'; try simp only [List.setIfInBounds_toArray, List.set]
    refine tk 10 ?_
    try simp only [Act.put, List.setIfInBounds_toArray, List.set_cons_zero, List.set_cons_succ]
    refine wpAnyH_done (by kernel_rfl) ?_ _
    refine NoPanic.normal ?_
    replace hH := hH.1
    clear hcp ck fk HP2 gi1 gi2 gn
    obtain ⟨V, hV⟩ : ∃ V, V = wc.drew.setCells b (9 + o) (List.map (Value.int .u8) y) := ⟨_, rfl⟩
    rw [← hV] at HS hH ⊢
    clear hV
    obtain ⟨ck, fk⟩ := HS.out.held
    have hwo : IntKind.i64.wrap ((o : Int) + (m : Int)) = (o : Int) + (m : Int) := by rw [IntKind.wrap_i64]; omega
    go_upto_region 5 with fail
    have e1 : (o : Int) + (m : Int) = ((o + m : Nat) : Int) := by omega
    have HX : Hid (Hx (V.setCell ⟨b, 73, none⟩ (.int .i64 ((o : Int) + (m : Int)))) b (l ++ x.take (j + m))) := by
     unfold Hid
     have eU : l ++ x.take (j + m) = U ++ y := by rw [List.take_add, ← List.append_assoc, ← HU.out, ← HY.out]
     rw [eU, e1]
     have h9 := HS.out.setK (k' := o + m) (by omega)
     refine hp_more y (by rw [HU.out]; exact HBU.out) HYB.out (by omega) (by rw [← HO.out]; omega) ?_
     rw [← HO.out, hyl]
     rw [hyl] at h9
     exact h9
    have hE9 := hH.set 73 (.int .i64 ((o : Int) + (m : Int)))
    obtain ⟨W9, hW9⟩ : ∃ W, W = V.setCell ⟨b, 73, none⟩ (.int .i64 ((o : Int) + (m : Int))) := ⟨_, rfl⟩
    rw [← hW9] at HX hE9 ⊢
    have HG9 : Hid (Gb W9) := HG2.out.extb hE9 g0 g1
    have HE9 : Hid (ExtB b w W9) := HE.out.comp hE9
    have HR8 := (HR2.out.extb hE9 hba).rest m hm1
    rw [List.drop_drop] at HR8
    obtain ⟨a8, ha8⟩ : ∃ x, (if c' = m then some (⟨ba, off, none⟩ : Addr) else some ⟨ba, off + m, none⟩) = x := ⟨_, rfl⟩
    rw [ha8] at HR8
    have HR9 : Hid (Rd W9 a8 (r - m) (c' - m) (x.drop (j + m))) := HR8
    have HN9 : Hid (0 < r - m → ∀ p, a8 = some p → p.block ≠ b) := by
     intro _ p hp
     rw [← ha8] at hp
     split at hp
     ·cases hp; exact hba
     ·cases hp; exact hba
    clear HR8 hE9 hH hW9 HS HG2 HE HR2 ck fk hwo e1
    have qm1 : (m : Int) ≤ r := by omega
    have qm2 : (m : Int) ≤ c' := by omega
    have qm3 : 0 ≤ (m : Int) := by omega
    go_wp2
    go_roundw
    case rel => exact ⟨j + m, r - m, a8, c' - m, by go_num, by omega, HR9, HN9, HX, HG9, HE9⟩
    case measure => simp [slen]; omega
  ·have e : r = 0 := by omega
   subst e
   have ej : j = len := by omega
   subst ej
   have hH : Hx wr b (l ++ x) := by
    have := H.out
    rwa [List.take_of_length_le (by rw [HXL.out]; exact Nat.le_refl _)] at this
   go_wp2
   go_end0
   exact ⟨rfl, hH, HE.out⟩
end Go.Proofs.YtmibjgkakolhiaaGreatDoor
/-
 Slices of slices of bytes. No statement of the seat is proved here.
-/
namespace Go.Proofs.YtmibjgkakolhiaaGreatDoor
open Go.RowKit

/-- The slice (a, len, _) reads in w as the lists L. -/
structure RdL (w : World) (a : Option Addr) (len : Nat) (L : List (List Int)) : Prop where
 hlen : L.length = len
 cell : 0 < len → ∃ b off, a = some ⟨b, off, none⟩ ∧ ∀ i, i < len → ∃ ai ni ci, w.cell? ⟨b, off + i, none⟩ = some (.slice ai ni ci) ∧ Rd w ai ni ci (L[i]?.getD [])
def flen (L : List (List Int)) (k : Nat) : Nat := (L.take k).flatten.length
set_option maxRecDepth 8000 in
theorem flen_zero (L : List (List Int)) : flen L 0 = 0 := by simp [flen]
set_option maxRecDepth 8000 in
theorem flen_succ (L : List (List Int)) (k : Nat) (h : k < L.length) : flen L (k + 1) = flen L k + (L[k]?.getD []).length := by
 unfold flen
 rw [List.take_succ_eq_append_getElem h, List.flatten_append, List.length_append, List.getElem?_eq_getElem h]
 simp
set_option maxRecDepth 8000 in
theorem flat_succ (L : List (List Int)) (k : Nat) (h : k < L.length) : (L.take (k + 1)).flatten = (L.take k).flatten ++ L[k]?.getD [] := by
 rw [List.take_succ_eq_append_getElem h, List.flatten_append, List.getElem?_eq_getElem h]
 simp
set_option maxRecDepth 8000 in
theorem flen_all (L : List (List Int)) : flen L L.length = L.flatten.length := by simp [flen]
set_option maxRecDepth 8000 in
theorem flen_le (L : List (List Int)) (k : Nat) : flen L k ≤ L.flatten.length := by
 have h : L.flatten = (L.take k).flatten ++ (L.drop k).flatten := by rw [← List.flatten_append, List.take_append_drop]
 unfold flen
 rw [h, List.length_append]
 omega
set_option maxRecDepth 8000 in
theorem RdL.below {w w' : World} {a : Option Addr} {len : Nat} {L : List (List Int)} (h : RdL w a len L) (hb : Below w.heap.size w w') : RdL w' a len L := ⟨h.hlen, fun h0 => by
 obtain ⟨b, off, ha, hc⟩ := h.cell h0
 exact ⟨b, off, ha, fun i hi => by
  obtain ⟨ai, ni, ci, h1, h2⟩ := hc i hi
  exact ⟨ai, ni, ci, cell_later hb h1, h2.below hb⟩⟩⟩
set_option maxRecDepth 8000 in
theorem RdL.nil (w : World) (a : Option Addr) : RdL w a 0 [] := ⟨rfl, fun h => absurd h (by decide)⟩
set_option maxRecDepth 8000 in
theorem RdL.one (w : World) (a : Option Addr) (n c : Nat) (l : List Int) (t : TypeId) (h : Rd w a n c l) : RdL (w.alloc (.cells #[.slice a n c] t)) (some ⟨w.heap.size, 0, none⟩) 1 [l] :=
 ⟨rfl, fun _ => ⟨w.heap.size, 0, rfl, fun i hi => by
  match i, hi with
  | 0, _ => exact ⟨a, n, c, by rw [cell_of_row _ _ _ _ _ _ (heap_alloc_new w _)]; rfl, h.alloc _⟩⟩⟩
set_option maxRecDepth 8000 in
theorem RdL.two (w : World) (a : Option Addr) (n c : Nat) (l : List Int) (a' : Option Addr) (n' c' : Nat) (l' : List Int) (t : TypeId) (h : Rd w a n c l) (h' : Rd w a' n' c' l') : RdL (w.alloc (.cells #[.slice a n c, .slice a' n' c'] t)) (some ⟨w.heap.size, 0, none⟩) 2 [l, l'] :=
 ⟨rfl, fun _ => ⟨w.heap.size, 0, rfl, fun i hi => by
  match i, hi with
  | 0, _ => exact ⟨a, n, c, by rw [cell_of_row _ _ _ _ _ _ (heap_alloc_new w _)]; rfl, h.alloc _⟩
  | 1, _ => exact ⟨a', n', c', by rw [cell_of_row _ _ _ _ _ _ (heap_alloc_new w _)]; rfl, h'.alloc _⟩⟩⟩
set_option maxRecDepth 8000 in
theorem RdL.three (w : World) (a : Option Addr) (n c : Nat) (l : List Int) (a' : Option Addr) (n' c' : Nat) (l' : List Int) (a2 : Option Addr) (n2 c2 : Nat) (l2 : List Int) (t : TypeId) (h : Rd w a n c l) (h' : Rd w a' n' c' l') (h2 : Rd w a2 n2 c2 l2) : RdL (w.alloc (.cells #[.slice a n c, .slice a' n' c', .slice a2 n2 c2] t)) (some ⟨w.heap.size, 0, none⟩) 3 [l, l', l2] :=
 ⟨rfl, fun _ => ⟨w.heap.size, 0, rfl, fun i hi => by
  match i, hi with
  | 0, _ => exact ⟨a, n, c, by rw [cell_of_row _ _ _ _ _ _ (heap_alloc_new w _)]; rfl, h.alloc _⟩
  | 1, _ => exact ⟨a', n', c', by rw [cell_of_row _ _ _ _ _ _ (heap_alloc_new w _)]; rfl, h'.alloc _⟩
  | 2, _ => exact ⟨a2, n2, c2, by rw [cell_of_row _ _ _ _ _ _ (heap_alloc_new w _)]; rfl, h2.alloc _⟩⟩⟩
end Go.Proofs.YtmibjgkakolhiaaGreatDoor
