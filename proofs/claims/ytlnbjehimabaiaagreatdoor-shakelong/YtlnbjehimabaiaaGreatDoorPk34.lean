/-
  Several texts of one's own, laid together. No statement of the seat is proved here.
-/
import Derived.Test.YtlnbjehimabaiaaGreatDoorPk33
import Derived.Test.YtlnbjehimabaiaaGreatDoorPk5
import Derived.Test.YtlnbjehimabaiaaGreatDoorPk9
/-
 A handshake's State in memory. No statement of the seat is proved here.
-/
namespace Go.Proofs.YtlnbjehimabaiaaGreatDoor
open Go.RowKit
set_option maxRecDepth 8000

/-- The texts of the tokens. -/
def tB (st : Nat) : ByteArray := if st = 0 then { data := #[101] } else if st = 1 then { data := #[101, 61, 115, 62] } else { data := #[115, 60] }
theorem tB_size (st : Nat) : (tB st).size = (tk11 st).length := by
 unfold tB tk11
 split
 ·rfl
 ·split <;> rfl
theorem tB_at : ∀ (st j : Nat) (_ : st < 3) (h : j < (tB st).size), ((tB st)[j]'h).toNat < 128 ∧ (tk11 st)[j]? = some (((tB st)[j]'h).toNat : Int)
 | 0, 0, _, _ => ⟨by show (101 : Nat) < 128; decide, rfl⟩
 | 0, k + 1, _, h => absurd (show k + 1 < 1 from h) (by omega)
 | 1, 0, _, _ => ⟨by show (101 : Nat) < 128; decide, rfl⟩
 | 1, 1, _, _ => ⟨by show (61 : Nat) < 128; decide, rfl⟩
 | 1, 2, _, _ => ⟨by show (115 : Nat) < 128; decide, rfl⟩
 | 1, 3, _, _ => ⟨by show (62 : Nat) < 128; decide, rfl⟩
 | 1, k + 4, _, h => absurd (show k + 4 < 4 from h) (by omega)
 | 2, 0, _, _ => ⟨by show (115 : Nat) < 128; decide, rfl⟩
 | 2, 1, _, _ => ⟨by show (60 : Nat) < 128; decide, rfl⟩
 | 2, k + 2, _, h => absurd (show k + 2 < 2 from h) (by omega)
 | _ + 3, _, h, _ => absurd h (by omega)
/-- The package's variables as the text lays them. -/
structure Gs (u : World) : Prop where
 gb : Gb u
 tk : u.rangeAt 0 0 [.string (tB 0), .string (tB 1), .string (tB 2)]
section
variable {u u' : World}
theorem Gs.later (h : Gs u) (hb : Below u.heap.size u u') : Gs u' := ⟨h.gb.later hb, range_later hb h.tk⟩
theorem Gs.extb {b : Nat} (h : Gs u) (hb : ExtB b u u') (h0 : 5 < b) (h1 : 6 < b) (h2 : 0 < b) : Gs u' := ⟨h.gb.extb hb h0 h1, fun j v hv => hb.cell (Nat.ne_of_lt h2) (h.tk j v hv)⟩
theorem Gs.cell (h : Gs u) (st : Nat) (hs : st < 3) : u.cell? ⟨0, st, none⟩ = some (.string (tB st)) := by
 have := h.tk st (.string (tB st)) (by match st, hs with | 0, _ => rfl | 1, _ => rfl | 2, _ => rfl)
 rwa [Nat.zero_add] at this
theorem Gs.tklt (h : Gs u) : 0 < u.heap.size := World.block_lt_of_cell? u _ (h.cell 0 (by decide))
end
/-- The State in block b: who is first, its secrets, what is in common, what was read of the other, whether it is wrong, the step. -/
structure Zs (u : World) (b : Nat) (f : Bool) (ss sf : List Int) (S : S11) (p : P11) (wr : Bool) (st : Int) : Prop where
 my : My u b S.k S.h S.n S.H S.C
 cf : Ao u b 98 1 [.bool f]
 cs : Ao u b 99 32 (List.map (Value.int .u8) ss)
 ce : Ao u b 131 32 (List.map (Value.int .u8) sf)
 co : Ao u b 163 32 (List.map (Value.int .u8) p.os)
 cp : Ao u b 195 32 (List.map (Value.int .u8) p.oF)
 cm : Ao u b 227 1 [.bool p.met]
 cw : Ao u b 228 1 [.bool wr]
 ct : Ao u b 229 1 [.int .i64 st]
 bs : Bn 32 ss
 be : Bn 32 sf
 bo : Bn 32 p.os
 bp : Bn 32 p.oF
 g0 : 5 < b
 g1 : 6 < b
 g2 : 0 < b
section
variable {u u' : World} {b : Nat} {f : Bool} {ss sf : List Int} {S : S11} {p : P11} {wr : Bool} {st : Int}
theorem Zs.later (s : Zs u b f ss sf S p wr st) (hb : Below u.heap.size u u') : Zs u' b f ss sf S p wr st :=
 ⟨s.my.later hb, s.cf.later hb, s.cs.later hb, s.ce.later hb, s.co.later hb, s.cp.later hb, s.cm.later hb, s.cw.later hb, s.ct.later hb, s.bs, s.be, s.bo, s.bp, s.g0, s.g1, s.g2⟩
theorem Zs.extb {c : Nat} (s : Zs u b f ss sf S p wr st) (hb : ExtB c u u') (hne : b ≠ c) : Zs u' b f ss sf S p wr st :=
 ⟨s.my.extb hb hne, s.cf.extb hb hne, s.cs.extb hb hne, s.ce.extb hb hne, s.co.extb hb hne, s.cp.extb hb hne, s.cm.extb hb hne, s.cw.extb hb hne, s.ct.extb hb hne, s.bs, s.be, s.bo, s.bp, s.g0, s.g1, s.g2⟩
theorem Zs.drew (s : Zs u b f ss sf S p wr st) : Zs u.drew b f ss sf S p wr st :=
 ⟨s.my.drew, s.cf.drew, s.cs.drew, s.ce.drew, s.co.drew, s.cp.drew, s.cm.drew, s.cw.drew, s.ct.drew, s.bs, s.be, s.bo, s.bp, s.g0, s.g1, s.g2⟩
theorem Zs.lt (s : Zs u b f ss sf S p wr st) : b < u.heap.size := s.my.lt
theorem Zs.gs (s : Zs u b f ss sf S p wr st) (h : Gs u) (hb : ExtB b u u') : Gs u' := h.extb hb s.g0 s.g1 s.g2
/-- What is in common has turned alone. -/
theorem Zs.sym (s : Zs u b f ss sf S p wr st) {k : List Int} {h : Bool} {n : Int} {H C : List Int} (m : My u' b k h n H C) (hb : ExtR b 0 98 u u') : Zs u' b f ss sf ⟨k, h, n, H, C⟩ p wr st :=
 ⟨m, s.cf.extr hb (by omega), s.cs.extr hb (by omega), s.ce.extr hb (by omega), s.co.extr hb (by omega), s.cp.extr hb (by omega), s.cm.extr hb (by omega), s.cw.extr hb (by omega), s.ct.extr hb (by omega), s.bs, s.be, s.bo, s.bp, s.g0, s.g1, s.g2⟩
theorem Zs.first (s : Zs u b f ss sf S p wr st) : u.cell? ⟨b, 98, none⟩ = some (.bool f) := (s.cf.cell 0 (by decide)).1
theorem Zs.metC (s : Zs u b f ss sf S p wr st) : u.cell? ⟨b, 227, none⟩ = some (.bool p.met) ∧ u.frozen? ⟨b, 227, none⟩ = false := s.cm.cell 0 (by decide)
theorem Zs.wrong (s : Zs u b f ss sf S p wr st) : u.cell? ⟨b, 228, none⟩ = some (.bool wr) ∧ u.frozen? ⟨b, 228, none⟩ = false := s.cw.cell 0 (by decide)
theorem Zs.step (s : Zs u b f ss sf S p wr st) : u.cell? ⟨b, 229, none⟩ = some (.int .i64 st) ∧ u.frozen? ⟨b, 229, none⟩ = false := s.ct.cell 0 (by decide)
/-- A field that is set. -/
theorem My.extr {o m : Nat} {k : List Int} {h : Bool} {n : Int} {H C : List Int} (s : My u b k h n H C) (hb : ExtR b o m u u') (ho : 98 ≤ o) : My u' b k h n H C :=
 ⟨s.sy.extr hb (by omega), s.ho.extr hb (by omega), s.co.extr hb (by omega), s.bh, s.bc⟩
theorem Zs.setStep (s : Zs u b f ss sf S p wr st) (x : Int) : Zs (u.setCell ⟨b, 229, none⟩ (.int .i64 x)) b f ss sf S p wr x := by
 have hx : ExtR b 229 1 u (u.setCell ⟨b, 229, none⟩ (.int .i64 x)) := (ExtR.refl _ _ _ _).set 229 (by decide) (by decide) _
 exact ⟨s.my.extr hx (by decide), s.cf.extr hx (by omega), s.cs.extr hx (by omega), s.ce.extr hx (by omega), s.co.extr hx (by omega), s.cp.extr hx (by omega), s.cm.extr hx (by omega), s.cw.extr hx (by omega), s.ct.set 0 (by decide) _, s.bs, s.be, s.bo, s.bp, s.g0, s.g1, s.g2⟩
theorem Zs.setMet (s : Zs u b f ss sf S p wr st) (x : Bool) : Zs (u.setCell ⟨b, 227, none⟩ (.bool x)) b f ss sf S { p with met := x } wr st := by
 have hx : ExtR b 227 1 u (u.setCell ⟨b, 227, none⟩ (.bool x)) := (ExtR.refl _ _ _ _).set 227 (by decide) (by decide) _
 exact ⟨s.my.extr hx (by decide), s.cf.extr hx (by omega), s.cs.extr hx (by omega), s.ce.extr hx (by omega), s.co.extr hx (by omega), s.cp.extr hx (by omega), s.cm.set 0 (by decide) _, s.cw.extr hx (by omega), s.ct.extr hx (by omega), s.bs, s.be, s.bo, s.bp, s.g0, s.g1, s.g2⟩
theorem Zs.setOs (s : Zs u b f ss sf S p wr st) {x : List Int} (hn : Bn 32 x) : Zs (u.setCells b 163 (List.map (Value.int .u8) x)) b f ss sf S { p with os := x } wr st := by
 have hx : ExtR b 163 32 u (u.setCells b 163 (List.map (Value.int .u8) x)) := ExtR.cells _ _ (ExtR.refl _ _ _ _) (Nat.le_refl _) (by rw [hn.map_len]; omega)
 exact ⟨s.my.extr hx (by decide), s.cf.extr hx (by omega), s.cs.extr hx (by omega), s.ce.extr hx (by omega), Ao.all_set s.co.all hn.map_len, s.cp.extr hx (by omega), s.cm.extr hx (by omega), s.cw.extr hx (by omega), s.ct.extr hx (by omega), s.bs, s.be, hn, s.bp, s.g0, s.g1, s.g2⟩
theorem Zs.setOf (s : Zs u b f ss sf S p wr st) {x : List Int} (hn : Bn 32 x) : Zs (u.setCells b 195 (List.map (Value.int .u8) x)) b f ss sf S { p with oF := x } wr st := by
 have hx : ExtR b 195 32 u (u.setCells b 195 (List.map (Value.int .u8) x)) := ExtR.cells _ _ (ExtR.refl _ _ _ _) (Nat.le_refl _) (by rw [hn.map_len]; omega)
 exact ⟨s.my.extr hx (by decide), s.cf.extr hx (by omega), s.cs.extr hx (by omega), s.ce.extr hx (by omega), s.co.extr hx (by omega), Ao.all_set s.cp.all hn.map_len, s.cm.extr hx (by omega), s.cw.extr hx (by omega), s.ct.extr hx (by omega), s.bs, s.be, s.bo, hn, s.g0, s.g1, s.g2⟩
/-- Of a State that is in common behind a token the letters may be told as one. -/
theorem Zs.is (s : Zs u b f ss sf S p wr st) {S' : S11} (h : S = S') : Zs u b f ss sf S' p wr st := h ▸ s
end
end Go.Proofs.YtlnbjehimabaiaaGreatDoor
/-
 What blake's New and (*Hash).Write do. No statement of the seat is proved here.
-/
namespace Go.Proofs.YtlnbjehimabaiaaGreatDoor
open Go.RowKit
set_option maxRecDepth 8000

set_option maxHeartbeats 1000000 in
theorem new_c (w : World) (hg : Gb w) :
  Calls Tryz.prog 120 #[] w fun e w' => e = .returned (.pointer (some ⟨w.heap.size, 0, none⟩)) ∧ Hid (Hx w' w.heap.size []) ∧ Below w.heap.size w w' := by
 have hi8 := (st_cells iv7_w).2.2
 go_enter Tryz.func120, Tryz.ntmps120
 go_upto_region 2 with (first | (refine wpList_load_mid rfl 138 (.global 5) rfl 5 0 rfl (List.map (Value.int .u32) iv7) _ hg.iv Tryz.underlying138 rfl hi8 ?_) | (refine wpList_build rfl rfl rfl ?_))
 have HS : Hid (Hs (w.alloc (.cells hn7.toArray 183)) w.heap.size iv7 0 z64w 0) := ⟨ar_box w hn7 74 (hc7_len rfl rfl) _, iv7_w, by decide, z64w_bn, by decide⟩
 have HB : Hid (Below w.heap.size w (w.alloc (.cells hn7.toArray 183))) := bel1 _ _
 obtain ⟨V, hV⟩ : ∃ V, V = w.alloc (.cells hn7.toArray 183) := ⟨_, rfl⟩
 obtain ⟨b, hb⟩ : ∃ b, b = w.heap.size := ⟨_, rfl⟩
 rw [← hV] at HS HB ⊢
 rw [← hb] at HS ⊢
 have HQ : Hid (b = w.heap.size) := hb
 clear hb
 obtain ⟨x, cx, fx, rx, HX⟩ := HS.out.word 0 (by decide)
 have xx : ∀ u, Ext V u → u.cell? ⟨b, 0, none⟩ = some (.int .u32 x) := fun u hu => hu.cell cx
 clear hV hi8 hg
 refine wp_region_noPanic ?_
 refine wp_region_two (k := 9) (Ext V) (ExtB b V) (by kernel_rfl) (Ext.refl _).drew (fun hH => ?_)
 change wpAnyK _ _ _ _ _ _ _ _ #[false, false, false, false, false, false, false, false, false, false] _ _
 refine tna 0 ?_
 refine tna 1 ?_
 refine tna 2 ?_
 refine tna 3 ?_
 refine tna 4 ?_ (hy := by (intro u hu; (have hx := xx u hu; go_simp) <;> with_reducible rfl))
 refine tna 5 ?_
 refine tnk 6 (fun _ h => h.extB _) ?_
 refine tnk 7 (fun _ h => h.extB _) ?_
 refine tna 8 ?_
 clear xx
 refine rdl 9 (fun K hK => ?_)
 go_simp
 refine ko hK ((hH.extB _).set 0 _) fun hH => ?_; clear hK K
 refine wpAnyH_done (by kernel_rfl) ?_ _
 refine NoPanic.normal ?_
 have hh : Hx (V.setCell ⟨b, 0, none⟩ (.int .u32 (xr7 x 16842784))).drew b [] := ⟨by
  have := (HS.out.setSt 0 (by decide) (xr7_w rx (b := 16842784) ⟨by decide, by decide⟩)).drew
  rw [HX.out] at this ⊢
  exact this, Byt.nil⟩
 have hbel : Below w.heap.size w (V.setCell ⟨b, 0, none⟩ (.int .u32 (xr7 x 16842784))).drew := (HB.out.setCell (p := ⟨b, 0, none⟩) (by have := HQ.out; dsimp only; omega) _).drew
 clear HS HB hH cx fx
 go_wp2
 go_ret
 rw [HQ.out] at hh hbel ⊢
 exact ⟨rfl, hh, hbel⟩

set_option maxHeartbeats 4000000 in
theorem write_c (b : Nat) (l : List Int) (a : Option Addr) (len cap : Nat) (x : List Int) (w : World) (hx : Hx w b l) (hg : Gb w) (g0 : 5 < b) (g1 : 6 < b) (hr : Rd w a len cap x) (hne : 0 < len → ∀ p, a = some p → p.block ≠ b) (hlen : l.length + len ≤ 4611686018427387904) :
  Calls Tryz.prog 121 #[.pointer (some ⟨b, 0, none⟩), .slice a len cap] w fun e w' => e = .returned (.tuple #[]) ∧ Hid (Hx w' b (l ++ x)) ∧ ExtB b w w' := by
 have HXL : Hid (x.length = len) := hr.hlen
 have HBX : Hid (Byt x) := hr.byt
 have H0 : Hid (Hx w b (l ++ x.take 0)) := by unfold Hid; rw [List.take_zero, List.append_nil]; exact hx
 have HR0 : Hid (Rd w a len cap (x.drop 0)) := by unfold Hid; rw [List.drop_zero]; exact hr
 have HN0 : Hid (0 < len → ∀ p, a = some p → p.block ≠ b) := hne
 have HG0 : Hid (Gb w) := hg
 clear hx hr hne hg
 go_enter Tryz.func121, Tryz.ntmps121
 go_wp2
 go_loopw [1] (fun tv wr => ∃ (j r : Nat) (a' : Option Addr) (c' : Nat), tv = .slice a' r c' ∧ j + r = len ∧ Hid (Rd wr a' r c' (x.drop j)) ∧ Hid (0 < r → ∀ p, a' = some p → p.block ≠ b) ∧ Hid (Hx wr b (l ++ x.take j)) ∧ Hid (Gb wr) ∧ Hid (ExtB b w wr)) (fun tv _ => slen tv)
 case atStart => exact ⟨0, len, a, cap, rfl, by omega, HR0, HN0, H0, HG0, ExtB.refl _ _⟩
 case round =>
  clear H0 HR0 HN0 HG0
  obtain ⟨j, r, a', c', rfl, hjr, HR, HN, H, HG, HE⟩ := hrel
  by_cases hlt : 0 < r
  ·have q1 : (0 : Int) < r := by omega
   obtain ⟨ba, off, rfl, -⟩ := HR.out.cell hlt
   have hba : ba ≠ b := HN.out hlt _ rfl
   obtain ⟨U, hU⟩ : ∃ U, U = l ++ x.take j := ⟨_, rfl⟩
   have HU : Hid (U = l ++ x.take j) := hU
   rw [← hU] at H
   have HBU : Hid (Byt (l ++ x.take j)) := by rw [← hU]; exact H.out.byt
   have hUl : U.length = l.length + j := by rw [hU, List.length_append, List.length_take, HXL.out]; omega
   clear hU HN
   obtain ⟨ck, -⟩ := H.out.h.held
   obtain ⟨hd, HD⟩ : ∃ n, Hid (n = U.length - 64 * kb7 U.length) := ⟨_, rfl⟩
   rw [← HD.out] at ck
   go_upto_if 12 with fail
   go_cut [] from 8 to 35 (fun wx => Hid (Hp wx b U (U.length / 64)) ∧ Hid (ExtB b wr wx))
   case first =>
    by_cases hk : hd = 64
    ·have hte : ((hd : Int) == 64) = true := by rw [hk]; rfl
     have hk2 : Hid (U.length - 64 * kb7 U.length = 64) := by unfold Hid; rw [← HD.out, hk]
     clear hk
     go_wp2_with fail
     refine (press_c b _ _ _ _ false _ H.out.h HG.out g0 g1 (by have := kb7_le U.length; omega)).mono ?_
     rintro e V ⟨rfl, HP, hb⟩
     have HP' := hp_pressed (kb7_full hk2.out).1 HP.out
     rw [← (kb7_full hk2.out).2] at HP'
     go_wp2_with fail
     go_meet
     exact ⟨HP', hb⟩
    ·have hte : ((hd : Int) == 64) = false := by simpa using (show ¬ (hd : Int) = 64 by omega)
     have HP' : Hp wr b U (U.length / 64) := by
      have := H.out.h
      rw [kb7_div (by rw [← HD.out]; exact hk)] at this
      exact this
     go_wp2_with fail
     go_meet
     exact ⟨HP', ExtB.refl _ _⟩
   case rest =>
    obtain ⟨HP, HE2⟩ := hcut
    clear ck HD hd H
    have HG2 : Hid (Gb wc) := HG.out.extb HE2.out g0 g1
    have HR2 : Hid (Rd wc (some ⟨ba, off, none⟩) r c' (x.drop j)) := HR.out.extb HE2.out hba
    replace HE : Hid (ExtB b w wc) := HE.out.comp HE2.out
    clear HG HR HE2
    obtain ⟨o, HO⟩ : ∃ o, Hid (o = U.length % 64) := ⟨_, rfl⟩
    have ho : o < 64 := by rw [HO.out]; omega
    have hoh : U.length - 64 * (U.length / 64) = o := by rw [HO.out]; omega
    have HP2 : Hid (Hs wc b (hb7 U (U.length / 64)) ((64 * (U.length / 64) : Nat) : Int) (pad7 (U.drop (64 * (U.length / 64)))) o) := by
     have := HP.out
     unfold Hp at this
     rw [hoh] at this
     exact this
    clear HP hoh
    obtain ⟨ck, fk⟩ := HP2.out.held
    obtain ⟨m, HM⟩ : ∃ m, Hid (m = min r (64 - o)) := ⟨_, rfl⟩
    have hm0 : 0 < m := by rw [HM.out]; omega
    have hm1 : m ≤ r := by rw [HM.out]; omega
    have hm2 : o + m ≤ 64 := by rw [HM.out]; omega
    have hle := HR2.out.hle
    have hcp := fun ty => copy_c wc.drew b (9 + o) (64 - o) (64 - o) ⟨ba, off, none⟩ r c' (x.drop j) HR2.out.drew m (by rw [HM.out]) (there_part HP2.out.ar.all (9 + o) m (by omega)) ty
    have gi1 : (o : Int) ≤ 64 := by omega
    have gi2 : 0 ≤ (o : Int) := by omega
    have gn : ¬ 64 = o := by omega
    obtain ⟨y, HY⟩ : ∃ y, Hid (y = (x.drop j).take m) := ⟨_, rfl⟩
    rw [← HY.out] at hcp
    have hyl : y.length = m := by rw [HY.out, List.length_take, HR2.out.hlen]; omega
    have HYB : Hid (Byt y) := by unfold Hid; rw [HY.out]; exact (HBX.out.drop j).take m
    go_upto_region 3 with fail
    refine wp_region_noPanic ?_
    refine wp_region_held_drew (S := (fun u => ExtB b wc u ∧ u.cell? ⟨b, 73, none⟩ = some (.int .i64 o))) (by kernel_rfl) ⟨(ExtB.refl _ _).drew, ck⟩ (fun hH => ?_)
    change wpAnyH _ _ _ _ _ _ #[false, false, false, false, false, false, false, false, false, false, false] _ _
    refine tn 0 ?_
    refine tn 1 ?_
    refine tn 2 ?_
    refine tn 3 ?_
    refine tn 4 ?_
    refine tn 5 ?_
    refine tn 6 ?_ (hy := by (intro u hu; (have hx := hu.2; go_simp) <;> with_reducible rfl))
    refine tn 7 ?_
    refine tn 8 ?_
    have HS : Hid (Hs (wc.drew.setCells b (9 + o) (List.map (Value.int .u8) y)) b (hb7 U (U.length / 64)) ((64 * (U.length / 64) : Nat) : Int) ((pad7 (U.drop (64 * (U.length / 64)))).take o ++ (y ++ (pad7 (U.drop (64 * (U.length / 64)))).drop (o + y.length))) o) := HP2.out.drew.part o y (by omega) HYB.out
    refine rdy 9 (fun K hK => ?_)
    go_simp
    refine ko hK ⟨extB_setCells _ _ _ hH.1, HS.out.held.1⟩ fun hH => ?_; clear hK K
    refine tn 10 ?_
    refine wpAnyH_done (by kernel_rfl) ?_ _
    refine NoPanic.normal ?_
    replace hH := hH.1
    clear hcp ck fk HP2 gi1 gi2 gn
    obtain ⟨V, hV⟩ : ∃ V, V = wc.drew.setCells b (9 + o) (List.map (Value.int .u8) y) := ⟨_, rfl⟩
    rw [← hV] at HS hH ⊢
    clear hV
    obtain ⟨ck, fk⟩ := HS.out.held
    have hwo : IntKind.i64.wrap ((o : Int) + (m : Int)) = (o : Int) + (m : Int) := by rw [IntKind.wrap_i64]; omega
    go_upto_region 5 with fail
    have e1 : (o : Int) + (m : Int) = ((o + m : Nat) : Int) := by omega
    have HX : Hid (Hx (V.setCell ⟨b, 73, none⟩ (.int .i64 ((o : Int) + (m : Int)))) b (l ++ x.take (j + m))) := by
     unfold Hid
     have eU : l ++ x.take (j + m) = U ++ y := by rw [List.take_add, ← List.append_assoc, ← HU.out, ← HY.out]
     rw [eU, e1]
     have h9 := HS.out.setK (k' := o + m) (by omega)
     refine hp_more y (by rw [HU.out]; exact HBU.out) HYB.out (by omega) (by rw [← HO.out]; omega) ?_
     rw [← HO.out, hyl]
     rw [hyl] at h9
     exact h9
    have hE9 := hH.set 73 (.int .i64 ((o : Int) + (m : Int)))
    obtain ⟨W9, hW9⟩ : ∃ W, W = V.setCell ⟨b, 73, none⟩ (.int .i64 ((o : Int) + (m : Int))) := ⟨_, rfl⟩
    rw [← hW9] at HX hE9 ⊢
    have HG9 : Hid (Gb W9) := HG2.out.extb hE9 g0 g1
    have HE9 : Hid (ExtB b w W9) := HE.out.comp hE9
    have HR8 := (HR2.out.extb hE9 hba).rest m hm1
    rw [List.drop_drop] at HR8
    obtain ⟨a8, ha8⟩ : ∃ x, (if c' = m then some (⟨ba, off, none⟩ : Addr) else some ⟨ba, off + m, none⟩) = x := ⟨_, rfl⟩
    rw [ha8] at HR8
    have HR9 : Hid (Rd W9 a8 (r - m) (c' - m) (x.drop (j + m))) := HR8
    have HN9 : Hid (0 < r - m → ∀ p, a8 = some p → p.block ≠ b) := by
     intro _ p hp
     rw [← ha8] at hp
     split at hp
     ·cases hp; exact hba
     ·cases hp; exact hba
    clear HR8 hE9 hH hW9 HS HG2 HE HR2 ck fk hwo e1
    have qm1 : (m : Int) ≤ r := by omega
    have qm2 : (m : Int) ≤ c' := by omega
    have qm3 : 0 ≤ (m : Int) := by omega
    go_wp2
    go_roundw
    case rel => exact ⟨j + m, r - m, a8, c' - m, by go_num, by omega, HR9, HN9, HX, HG9, HE9⟩
    case measure => simp [slen]; omega
  ·have e : r = 0 := by omega
   subst e
   have ej : j = len := by omega
   subst ej
   have hH : Hx wr b (l ++ x) := by
    have := H.out
    rwa [List.take_of_length_le (by rw [HXL.out]; exact Nat.le_refl _)] at this
   go_wp2
   go_end0
   exact ⟨rfl, hH, HE.out⟩
end Go.Proofs.YtlnbjehimabaiaaGreatDoor
