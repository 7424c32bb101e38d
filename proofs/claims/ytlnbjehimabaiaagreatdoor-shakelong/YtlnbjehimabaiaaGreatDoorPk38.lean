/-
  Several texts of one's own, laid together. No statement of the seat is proved here.
-/
import Derived.Test.YtlnbjehimabaiaaGreatDoorPk37
import Derived.Test.YtlnbjehimabaiaaGreatDoorPk1
import Derived.Test.YtlnbjehimabaiaaGreatDoorPk36
import Derived.Test.YtlnbjehimabaiaaGreatDoorPk35
import Derived.Test.YtlnbjehimabaiaaGreatDoorPk34
import Derived.Lib.OthersKept
import Derived.Test.YtlnbjehimabaiaaGreatDoorPk3
/-
 Derive of two and of three keys, key by key. No statement of the seat is proved here.
-/
namespace Go.Proofs.YtlnbjehimabaiaaGreatDoor
open Go.RowKit
set_option maxRecDepth 8000

theorem two_of {u : World} {g : Nat} {T : List Int} (h : RdA u (some ⟨g, 0, none⟩) 2 (kl8 T 2)) : u.rangeAt g 0 (List.map (Value.int .u8) (ky8 T 1)) ∧ u.rangeAt g 32 (List.map (Value.int .u8) (ky8 T 2)) := ⟨h.at 0 (by decide), h.at 1 (by decide)⟩
theorem three_of {u : World} {g : Nat} {T : List Int} (h : RdA u (some ⟨g, 0, none⟩) 3 (kl8 T 3)) : u.rangeAt g 0 (List.map (Value.int .u8) (ky8 T 1)) ∧ u.rangeAt g 32 (List.map (Value.int .u8) (ky8 T 2)) ∧ u.rangeAt g 64 (List.map (Value.int .u8) (ky8 T 3)) := ⟨h.at 0 (by decide), h.at 1 (by decide), h.at 2 (by decide)⟩
theorem derive2_l (chain : List Int) (a : Option Addr) (len cap : Nat) (input : List Int) (hc : Bn 32 chain) (w : World) (hr : Rd w a len cap input) (hg : Gb w) (hT : 64 + len ≤ 4611686018427387904) :
  Calls Tryz.prog 79 #[(.agg (List.map (Value.int .u8) chain).toArray), .slice a len cap, .int .i64 2] w fun e w' => ∃ g A B, e = .returned (.slice (some ⟨g, 0, none⟩) 2 2) ∧ Hid (A = ky8 (hm8 chain input) 1) ∧ Hid (B = ky8 (hm8 chain input) 2) ∧ Hid (w'.rangeAt g 0 (List.map (Value.int .u8) A)) ∧ Hid (w'.rangeAt g 32 (List.map (Value.int .u8) B)) ∧ Below w.heap.size w w' :=
 (derive_yes chain a len cap input 2 hc (.inl rfl) w hr hg hT).mono fun _ _ ⟨g, h, hR, hb⟩ => ⟨g, _, _, h, rfl, rfl, (two_of hR.out).1, (two_of hR.out).2, hb⟩
theorem derive3_l (chain : List Int) (a : Option Addr) (len cap : Nat) (input : List Int) (hc : Bn 32 chain) (w : World) (hr : Rd w a len cap input) (hg : Gb w) (hT : 64 + len ≤ 4611686018427387904) :
  Calls Tryz.prog 79 #[(.agg (List.map (Value.int .u8) chain).toArray), .slice a len cap, .int .i64 3] w fun e w' => ∃ g A B C, e = .returned (.slice (some ⟨g, 0, none⟩) 3 3) ∧ Hid (A = ky8 (hm8 chain input) 1) ∧ Hid (B = ky8 (hm8 chain input) 2) ∧ Hid (C = ky8 (hm8 chain input) 3) ∧ Hid (w'.rangeAt g 0 (List.map (Value.int .u8) A)) ∧ Hid (w'.rangeAt g 32 (List.map (Value.int .u8) B)) ∧ Hid (w'.rangeAt g 64 (List.map (Value.int .u8) C)) ∧ Below w.heap.size w w' :=
 (derive_yes chain a len cap input 3 hc (.inr rfl) w hr hg hT).mono fun _ _ ⟨g, h, hR, hb⟩ => ⟨g, _, _, _, h, rfl, rfl, rfl, (three_of hR.out).1, (three_of hR.out).2.1, (three_of hR.out).2.2, hb⟩
end Go.Proofs.YtlnbjehimabaiaaGreatDoor
/-
 What a State's MixKey and Split do. No statement of the seat is proved here.
-/
namespace Go.Proofs.YtlnbjehimabaiaaGreatDoor
open Go.RowKit
set_option maxRecDepth 8000

set_option maxHeartbeats 4000000 in
theorem mixkey10_c (b : Nat) (k : List Int) (h : Bool) (n : Int) (H C : List Int) (a : Option Addr) (len cap : Nat) (x : List Int) (w : World) (hs : My w b k h n H C) (hr : Rd w a len cap x) (hg : Gb w) (hm : len ≤ 281474976710656) :
  Calls Tryz.prog 130 #[.pointer (some ⟨b, 0, none⟩), .slice a len cap] w fun e w' => ∃ K C', e = .returned (.tuple #[]) ∧ Hid (C' = ky8 (hm8 C x) 1) ∧ Hid (K = ky8 (hm8 C x) 2) ∧ Hid (My w' b K true 0 H C') ∧ ExtR b 0 98 w w' := by
 have HS : Hid (My w b k h n H C) := hs
 have HG : Hid (Gb w) := hg
 have HR : Hid (Rd w a len cap x) := hr
 have hRC := hs.co.rng
 obtain ⟨_, _, hiC⟩ := bn32_cells hs.bc
 clear hs hr hg
 go_enter Tryz.func130, Tryz.ntmps130
 go_wp2_with (refine wpList_load_mid rfl 30 (.tmp 7) rfl b 66 rfl (List.map (Value.int .u8) C) _ hRC Tryz.underlying30 rfl hiC ?_)
 clear hRC hiC
 refine (derive2_l C a len cap x HS.out.bc _ HR.out HG.out (by omega)).mono ?_
 rintro e V ⟨g, A, B, rfl, HA, HBB, RA, RB, hb⟩
 have HE : Hid (ExtR b 0 98 w V) := ExtR.of hb HS.out.lt
 replace HS := hidp (HS.out.later hb)
 have HAn : Hid (Bn 32 A) := by unfold Hid; rw [HA.out]; exact ky8_bn _ 0
 have HBn : Hid (Bn 32 B) := by unfold Hid; rw [HBB.out]; exact ky8_bn _ 1
 have hgb : g ≠ b := HS.out.far HBn.out RB.out
 clear hb HR HG
 obtain ⟨hlen', hone, hi⟩ := bn32_cells HAn.out
 have hR := RA.out
 obtain ⟨cs, hcs⟩ : ∃ cs, cs = (List.map (Value.int .u8) A) := ⟨_, rfl⟩
 have HCS : Hid (cs = (List.map (Value.int .u8) A)) := hcs
 rw [← hcs] at hlen' hone hi hR
 clear hcs RA
 have hth := HS.out.co.all
 go_upto_region 2 with (first
  | (refine wpList_load_mid rfl 30 (.tmp 13) rfl g 0 rfl cs _ hR Tryz.underlying30 rfl hi ?_)
  | (refine wpList_store_mid rfl 30 (.tmp 16) (.tmp 14) rfl b 66 cs.toArray rfl rfl (by simpa [hlen'] using hth) (by simpa using hi) (all_oneCell_toArray hone) ?_))
 have hx : ExtR b 0 98 V (V.setCells b 66 cs) := ExtR.cells _ _ (ExtR.refl _ _ _ _) (by decide) (by rw [hlen']; decide)
 replace RB : Hid ((V.setCells b 66 cs).rangeAt g 32 (List.map (Value.int .u8) B)) := fun j v hv => hx.ext.cell hgb (RB.out j v hv)
 replace HE : Hid (ExtR b 0 98 w (V.setCells b 66 cs)) := HE.out.comp hx
 replace HS : Hid (My (V.setCells b 66 cs) b k h n H A) := by unfold Hid; rw [HCS.out]; exact HS.out.setC HAn.out
 obtain ⟨W2, hW2⟩ : ∃ W, W = V.setCells b 66 cs := ⟨_, rfl⟩
 rw [← hW2] at RB HE HS ⊢
 clear hW2 hx hth hR hlen' hone hi HCS
 obtain ⟨_, _, hiB⟩ := bn32_cells HBn.out
 go_upto_region 2 with fail
 refine wp_region_noPanic ?_
 refine wp_region_held_drew (S := ExtR b 0 98 W2) (by kernel_rfl) (ExtR.refl b 0 98 W2).drew (fun hH => ?_)
 change wpAnyH _ _ _ _ _ _ #[false, false, false, false, false, false, false] _ _
 refine tn 0 ?_
 refine tn 1 ?_
 refine tn 2 ?_
 refine tn 3 ?_
 refine tn 4 ?_
 refine tnl 5 (.agg (List.map (Value.int .u8) B).toArray) ?_ (hy := by exact yieldsIf_load_mid (by rfl) 30 (.tmp 21) rfl g 32 rfl (List.map (Value.int .u8) B) _ (fun u hu j v hv => ExtB.cell hu.ext hgb (RB.out j v hv)) Tryz.underlying30 rfl hiB)
 refine rdy 6 (fun K hK => ?_)
 go_simp
 refine (init9_o b 0 k h n B HBn.out _ HS.out.drew.sy).mono ?_
 rintro e V3 ⟨rfl, HT, hx⟩
 refine ko hK ((ExtR.refl b 0 98 W2).drew.comp (hx.wider (by decide) (by decide))) fun hH => ?_; clear hK K
 refine wpAnyH_done (by kernel_rfl) ?_ _
 refine NoPanic.normal ?_
 replace HS := hidp (HS.out.drew.cip HT.out hx)
 replace HE : Hid (ExtR b 0 98 w V3) := HE.out.comp hH
 clear HT hx RB hiB hH
 go_wp2
 go_end0
 exact ⟨B, A, rfl, HA, HBB, HS, HE.out⟩
set_option maxHeartbeats 2000000 in
theorem withkey_c (key : List Int) (hk : Bn 32 key) (w : World) :
  Calls Tryz.prog 80 #[(.agg (List.map (Value.int .u8) key).toArray)] w fun e w' => ∃ c, e = .returned (.pointer (some ⟨c, 0, none⟩)) ∧ w.heap.size ≤ c ∧ Hid (Sx w' c key true 0) ∧ Below w.heap.size w w' := by
 have HK : Hid (Bn 32 key) := hk
 clear hk
 obtain ⟨_, _, hiK⟩ := bn32_cells HK.out
 go_enter Tryz.func80, Tryz.ntmps80
 go_upto_region 1 with fail
 have AK : Hid (Ar (w.alloc (.cells (List.map (Value.int .u8) key).toArray 30)) w.heap.size 32 (List.map (Value.int .u8) key)) := ar_box w _ 32 HK.out.map_len _
 have HB : Hid (Below w.heap.size w (w.alloc (.cells (List.map (Value.int .u8) key).toArray 30))) := bel1 _ _
 obtain ⟨W0, hW0⟩ : ∃ W, W = (w.alloc (.cells (List.map (Value.int .u8) key).toArray 30)) := ⟨_, rfl⟩
 obtain ⟨q1, hq1⟩ : ∃ q, q = w.heap.size := ⟨_, rfl⟩
 rw [← hW0] at AK HB ⊢
 rw [← hq1] at AK ⊢
 clear hW0 hq1
 go_wp2_with fail
 refine (new9_c _).mono ?_
 rintro e V ⟨rfl, HS, hb⟩
 obtain ⟨c, hc⟩ : ∃ q, q = W0.heap.size := ⟨_, rfl⟩
 rw [← hc] at HS ⊢
 have kc : w.heap.size ≤ c := by rw [hc]; exact HB.out.size
 replace AK := hidp (AK.out.later hb)
 replace HB := hidp (HB.out.trans (hb.mono HB.out.size))
 clear hb hc
 go_wp2_with (refine wpList_load_mid rfl 30 (.tmp 1) rfl q1 0 rfl (List.map (Value.int .u8) key) _ AK.out.rng Tryz.underlying30 rfl hiK ?_)
 refine (init9_c c z9l false 0 key HK.out _ HS.out).mono ?_
 rintro e V2 ⟨rfl, HS2, hx⟩
 replace HB : Hid (Below w.heap.size w V2) := hx.below HB.out kc
 clear hx HS AK hiK
 go_wp2
 go_ret
 exact ⟨c, rfl, kc, HS2, HB.out⟩
set_option maxHeartbeats 4000000 in
theorem split10_c (b : Nat) (k : List Int) (h : Bool) (n : Int) (H C : List Int) (w : World) (hs : My w b k h n H C) (hg : Gb w) :
  Calls Tryz.prog 50 #[.pointer (some ⟨b, 0, none⟩)] w fun e w' => ∃ c d A B, e = .returned (.tuple #[.pointer (some ⟨c, 0, none⟩), .pointer (some ⟨d, 0, none⟩)]) ∧ Hid (A = ky8 (hm8 C []) 1) ∧ Hid (B = ky8 (hm8 C []) 2) ∧ Hid (Sx w' c A true 0) ∧ Hid (Sx w' d B true 0) ∧ w.heap.size ≤ c ∧ w.heap.size ≤ d ∧ c ≠ d ∧ Below w.heap.size w w' := by
 have HS : Hid (My w b k h n H C) := hs
 have HG : Hid (Gb w) := hg
 have hRC := hs.co.rng
 obtain ⟨_, _, hiC⟩ := bn32_cells hs.bc
 clear hs hg
 go_enter Tryz.func50, Tryz.ntmps50
 go_wp2_with (refine wpList_load_mid rfl 30 (.tmp 7) rfl b 66 rfl (List.map (Value.int .u8) C) _ hRC Tryz.underlying30 rfl hiC ?_)
 clear hRC hiC
 refine (derive2_l C none 0 0 [] HS.out.bc _ (Rd.nil _ _ _ (fun _ => rfl)) HG.out (by decide)).mono ?_
 rintro e V ⟨g, A, B, rfl, HA, HBB, RA, RB, hb⟩
 have HB : Hid (Below w.heap.size w V) := hb
 have HAn : Hid (Bn 32 A) := by unfold Hid; rw [HA.out]; exact ky8_bn _ 0
 have HBn : Hid (Bn 32 B) := by unfold Hid; rw [HBB.out]; exact ky8_bn _ 1
 obtain ⟨_, _, hiA⟩ := bn32_cells HAn.out
 obtain ⟨_, _, hiB⟩ := bn32_cells HBn.out
 clear hb HS HG
 go_upto_region 2 with fail
 refine wp_region_noPanic ?_
 refine wp_region_held_drew (S := Ext V) (by kernel_rfl) (Ext.refl _).drew (fun hH => ?_)
 change wpAnyH _ _ _ _ _ _ #[false, false, false, false, false, false, false, false, false, false] _ _
 refine tn 0 ?_
 refine tn 1 ?_
 refine tnl 2 (.agg (List.map (Value.int .u8) A).toArray) ?_ (hy := by exact yieldsIf_load_mid (by rfl) 30 (.tmp 11) rfl g 0 rfl (List.map (Value.int .u8) A) _ (fun u hu => range_later hu RA.out) Tryz.underlying30 rfl hiA)
 refine tn 4 ?_
 refine tn 5 ?_
 refine tnl 6 (.agg (List.map (Value.int .u8) B).toArray) ?_ (hy := by exact yieldsIf_load_mid (by rfl) 30 (.tmp 15) rfl g 32 rfl (List.map (Value.int .u8) B) _ (fun u hu => range_later hu RB.out) Tryz.underlying30 rfl hiB)
 refine rdy 3 (fun K hK => ?_)
 go_simp
 refine (withkey_c A HAn.out _).mono ?_
 rintro e V1 ⟨c, rfl, kc, HSc, hb⟩
 have kcV : V.heap.size ≤ c := Nat.le_trans hH.size kc
 clear kc
 refine ko hK (hH.trans hb) fun hH => ?_; clear hK K
 clear hb
 refine rdy 7 (fun K hK => ?_)
 go_simp
 have kcl := HSc.out.lt
 refine (withkey_c B HBn.out _).mono ?_
 rintro e V2 ⟨d, rfl, kd, HSd, hb⟩
 replace HSc := hidp (HSc.out.later hb)
 have kcd : c ≠ d := by omega
 have kdV : V.heap.size ≤ d := by omega
 clear kd kcl
 refine ko hK (hH.trans hb) fun hH => ?_; clear hK K
 clear hb
 refine tn 8 ?_
 refine tn 9 ?_
 refine wpAnyH_done (by kernel_rfl) ?_ _
 refine NoPanic.normal ?_
 have hb2 : Below V.heap.size V _ := hH
 have kc : w.heap.size ≤ c := Nat.le_trans HB.out.size kcV
 have kd : w.heap.size ≤ d := Nat.le_trans HB.out.size kdV
 replace HB := hidp (HB.out.trans (hb2.mono HB.out.size))
 clear hH hb2 RA RB hiA hiB
 go_wp2
 go_ret2
 exact ⟨c, d, A, B, rfl, HA, HBB, HSc, HSd, kc, kd, kcd, HB.out⟩
end Go.Proofs.YtlnbjehimabaiaaGreatDoor
/-
 What shake's New does. No statement of the seat is proved here.
-/
namespace Go.Proofs.YtlnbjehimabaiaaGreatDoor
open Go.RowKit
set_option maxRecDepth 8000

theorem cons8 {l : List Int} {n : Nat} (h : l.length = n + 8) : ∃ a b c d e f g i r, l = a :: b :: c :: d :: e :: f :: g :: i :: r ∧ r.length = n := by
 match l, h with
 | a :: b :: c :: d :: e :: f :: g :: i :: r, h => exact ⟨a, b, c, d, e, f, g, i, r, rfl, by simpa using h⟩
theorem Ao.app {u : World} {b o n m : Nat} {x y : List Value} (hx : x.length = n) (h : Ao u b o (n + m) (x ++ y)) : Ao u b o n x ∧ Ao u b (o + n) m y := by
 have hl := h.len
 rw [List.length_append, hx] at hl
 refine ⟨?_, ?_⟩
 ·have := h.sub 0 n (by omega)
  rwa [List.drop_zero, List.take_left' hx, Nat.add_zero] at this
 ·have := h.sub n m (by omega)
  rwa [List.drop_left' hx, List.take_of_length_le (by omega)] at this
/-- The cells of a State that is begun. -/
def zc11 (f : Bool) (ss sf N : List Int) : List Value := nc10 N ++ ([.bool f] ++ (List.map (Value.int .u8) ss ++ (List.map (Value.int .u8) sf ++ (List.map (Value.int .u8) z9l ++ (List.map (Value.int .u8) z9l ++ ([.bool false] ++ ([.bool false] ++ [.int .i64 0])))))))
theorem zc11_len (f : Bool) {ss sf N : List Int} (hs : Bn 32 ss) (he : Bn 32 sf) (hN : Bn 32 N) : (zc11 f ss sf N).length = 230 := by
 unfold zc11
 simp only [List.length_append, nc10_len hN, hs.map_len, he.map_len, z9l_bn.map_len, List.length_cons, List.length_nil]
set_option maxRecDepth 100000 in
theorem build_shake (f : Bool) {ss sf N : List Int} (hs0 : ss.length = 32) (he0 : sf.length = 32) (hN0 : N.length = 32) (w : World) : Sem.run Tryz.prog (Instr.build 68 #[(0, .agg (nc10 N).toArray), (1, .bool f), (2, .agg (List.map (Value.int .u8) ss).toArray), (3, .agg (List.map (Value.int .u8) sf).toArray)]) w = .ok (.agg (zc11 f ss sf N).toArray) w := by
 obtain ⟨a00, a01, a02, a03, a04, a05, a06, a07, ar1, rfl, hs1⟩ := cons8 hs0
 obtain ⟨a10, a11, a12, a13, a14, a15, a16, a17, ar2, rfl, hs2⟩ := cons8 hs1
 obtain ⟨a20, a21, a22, a23, a24, a25, a26, a27, ar3, rfl, hs3⟩ := cons8 hs2
 obtain ⟨a30, a31, a32, a33, a34, a35, a36, a37, ar4, rfl, hs4⟩ := cons8 hs3
 obtain rfl := List.eq_nil_of_length_eq_zero hs4
 obtain ⟨b00, b01, b02, b03, b04, b05, b06, b07, br1, rfl, he1⟩ := cons8 he0
 obtain ⟨b10, b11, b12, b13, b14, b15, b16, b17, br2, rfl, he2⟩ := cons8 he1
 obtain ⟨b20, b21, b22, b23, b24, b25, b26, b27, br3, rfl, he3⟩ := cons8 he2
 obtain ⟨b30, b31, b32, b33, b34, b35, b36, b37, br4, rfl, he4⟩ := cons8 he3
 obtain rfl := List.eq_nil_of_length_eq_zero he4
 obtain ⟨c00, c01, c02, c03, c04, c05, c06, c07, cr1, rfl, hN1⟩ := cons8 hN0
 obtain ⟨c10, c11, c12, c13, c14, c15, c16, c17, cr2, rfl, hN2⟩ := cons8 hN1
 obtain ⟨c20, c21, c22, c23, c24, c25, c26, c27, cr3, rfl, hN3⟩ := cons8 hN2
 obtain ⟨c30, c31, c32, c33, c34, c35, c36, c37, cr4, rfl, hN4⟩ := cons8 hN3
 obtain rfl := List.eq_nil_of_length_eq_zero hN4
 kernel_rfl
theorem yieldsIf_build_four {ops : Array Oper} {S : World → Prop} {o : Oper} {a : Act} (hw : Region.wanted o (yielded ops a.tmps) = true) {t : TypeId} {i j k l : Nat} {p q r s : Operand} (ho : o.op = Op.build t #[(i, p), (j, q), (k, r), (l, s)]) (x y z z' v : Value) (hx : a.eval p = x) (hy : a.eval q = y) (hz : a.eval r = z) (hz' : a.eval s = z')
  (hr : ∀ w, Sem.run Tryz.prog (Instr.build t #[(i, x), (j, y), (k, z), (l, z')]) w = .ok v w) : YieldsIf Tryz.prog ops S o v a :=
 .inl ⟨hw, fun w _ => by
  unfold execOp
  rw [ho]
  have e1 : Array.map (fun x : Nat × Operand => match x with | (i, x) => (i, a.eval x)) #[(i, p), (j, q), (k, r), (l, s)] = #[(i, x), (j, y), (k, z), (l, z')] := by
   rw [← hx, ← hy, ← hz, ← hz']
   simp
  show Sem.run Tryz.prog (do let r ← Instr.build t (Array.map (fun x : Nat × Operand => match x with | (i, x) => (i, a.eval x)) #[(i, p), (j, q), (k, r), (l, s)]); pure (Next.value r)) w = _
  rw [e1, Sem.run_bind, hr]
  rfl⟩
theorem zs_new (u : World) (f : Bool) {ss sf N : List Int} (hs : Bn 32 ss) (he : Bn 32 sf) (hN : Bn 32 N) (hg : Gs u) (t : TypeId) : Zs (u.alloc (.cells (zc11 f ss sf N).toArray t)) u.heap.size f ss sf ⟨z9l, false, 0, N, N⟩ ⟨z9l, z9l, false⟩ false 0 := by
 have h := (ar_box u (zc11 f ss sf N) 230 (zc11_len f hs he hN) t).ao
 unfold zc11 at h
 obtain ⟨h1, h⟩ := Ao.app (n := 98) (m := 132) (nc10_len hN) h
 obtain ⟨h2, h⟩ := Ao.app (n := 1) (m := 131) rfl h
 obtain ⟨h3, h⟩ := Ao.app (n := 32) (m := 99) hs.map_len h
 obtain ⟨h4, h⟩ := Ao.app (n := 32) (m := 67) he.map_len h
 obtain ⟨h5, h⟩ := Ao.app (n := 32) (m := 35) z9l_bn.map_len h
 obtain ⟨h6, h⟩ := Ao.app (n := 32) (m := 3) z9l_bn.map_len h
 obtain ⟨h7, h⟩ := Ao.app (n := 1) (m := 2) rfl h
 obtain ⟨h8, h⟩ := Ao.app (n := 1) (m := 1) rfl h
 obtain ⟨k1, k2, k3⟩ := Ao.three (sc9_len z9l_bn.len) hN.map_len hN.map_len h1
 exact ⟨⟨⟨k1, z9l_bn, by show (0 : Int) ≤ 0 ∧ (0 : Int) < 18446744073709551616; decide⟩, k2, k3, hN, hN⟩, h2, h3, h4, h5, h6, h7, h8, h, hs, he, z9l_bn, z9l_bn, hg.gb.ivlt, hg.gb.sglt, hg.tklt⟩
/-- The name, as a hash; what is in common ahead of all messages. -/
def n11 : List Int := nm10 (sd { data := #[78, 111, 105, 115, 101, 95, 88, 88, 95, 50, 53, 53, 49, 57, 95, 67, 104, 97, 67, 104, 97, 80, 111, 108, 121, 95, 66, 76, 65, 75, 69, 50, 115] })
theorem n11_bn : Bn 32 n11 := nm10_bn (sd_byt _)
def s11 (pr : List Int) : S11 := ⟨z9l, false, 0, sum7 (n11 ++ pr), n11⟩
set_option maxHeartbeats 4000000 in
theorem new11_c (f : Bool) (a : Option Addr) (len cap : Nat) (pr ss sf : List Int) (hs : Bn 32 ss) (he : Bn 32 sf) (w : World) (hr : Rd w a len cap pr) (hg : Gs w) (hm : len ≤ 281474976710656) :
  Calls Tryz.prog 27 #[.bool f, .slice a len cap, (.agg (List.map (Value.int .u8) ss).toArray), (.agg (List.map (Value.int .u8) sf).toArray)] w fun e w' => ∃ b, e = .returned (.pointer (some ⟨b, 0, none⟩)) ∧ w.heap.size ≤ b ∧ Hid (Zs w' b f ss sf (s11 pr) ⟨z9l, z9l, false⟩ false (0 : Nat)) ∧ Below w.heap.size w w' := by
 have HSn : Hid (Bn 32 ss) := hs
 have HEn : Hid (Bn 32 sf) := he
 have HR : Hid (Rd w a len cap pr) := hr
 have HG : Hid (Gs w) := hg
 obtain ⟨_, _, hi6⟩ := bn32_cells hs
 obtain ⟨_, _, hi7⟩ := bn32_cells he
 clear hs he hr hg
 go_enter Tryz.func27, Tryz.ntmps27
 go_upto_region 1 with fail
 have hsz : (w.alloc (.cells (List.map (Value.int .u8) ss).toArray 30)).heap.size = w.heap.size + 1 := by simp
 have A6 : Hid (Ar ((w.alloc (.cells (List.map (Value.int .u8) ss).toArray 30)).alloc (.cells (List.map (Value.int .u8) sf).toArray 30)) w.heap.size 32 (List.map (Value.int .u8) ss)) := (ar_box w _ 32 HSn.out.map_len _).later (bel1 _ _)
 have A7 : Hid (Ar ((w.alloc (.cells (List.map (Value.int .u8) ss).toArray 30)).alloc (.cells (List.map (Value.int .u8) sf).toArray 30)) (w.heap.size + 1) 32 (List.map (Value.int .u8) sf)) := by
  have h := ar_box (w.alloc (.cells (List.map (Value.int .u8) ss).toArray 30)) (List.map (Value.int .u8) sf) 32 HEn.out.map_len 30
  rw [hsz] at h
  exact h
 have HB : Hid (Below w.heap.size w ((w.alloc (.cells (List.map (Value.int .u8) ss).toArray 30)).alloc (.cells (List.map (Value.int .u8) sf).toArray 30))) := (bel1 w _).trans ((bel1 (w.alloc (.cells (List.map (Value.int .u8) ss).toArray 30)) _).mono (bel1 w _).size)
 obtain ⟨W0, hW0⟩ : ∃ W, W = ((w.alloc (.cells (List.map (Value.int .u8) ss).toArray 30)).alloc (.cells (List.map (Value.int .u8) sf).toArray 30)) := ⟨_, rfl⟩
 obtain ⟨q7, hq7⟩ : ∃ q, q = w.heap.size + 1 := ⟨_, rfl⟩
 obtain ⟨q6, hq6⟩ : ∃ q, q = w.heap.size := ⟨_, rfl⟩
 rw [← hW0, ← hq7] at A7
 rw [← hW0, ← hq6] at A6
 rw [← hW0] at HB
 rw [← hW0, ← hq7, ← hq6]
 clear hsz hW0 hq7 hq6
 replace HG := hidp (HG.out.later HB.out)
 replace HR := hidp (HR.out.below HB.out)
 refine wp_region_noPanic ?_
 refine wp_region_held_drew (S := Ext W0) (by kernel_rfl) (Ext.refl _).drew (fun hH => ?_)
 change wpAnyH _ _ _ _ _ _ #[false, false, false, false, false, false, false, false, false] _ _
 refine tn 3 ?_
 refine tnl 4 (.agg (List.map (Value.int .u8) ss).toArray) ?_ (hy := by exact yieldsIf_load_mid (by rfl) 30 (.tmp 6) rfl q6 0 rfl (List.map (Value.int .u8) ss) _ (fun u hu => range_later hu A6.out.rng) Tryz.underlying30 rfl hi6)
 refine tnl 5 (.agg (List.map (Value.int .u8) sf).toArray) ?_ (hy := by exact yieldsIf_load_mid (by rfl) 30 (.tmp 7) rfl q7 0 rfl (List.map (Value.int .u8) sf) _ (fun u hu => range_later hu A7.out.rng) Tryz.underlying30 rfl hi7)
 refine rdy 0 (fun K hK => ?_)
 go_simp
 refine (new10_c { data := #[78, 111, 105, 115, 101, 95, 88, 88, 95, 50, 53, 53, 49, 57, 95, 67, 104, 97, 67, 104, 97, 80, 111, 108, 121, 95, 66, 76, 65, 75, 69, 50, 115] } _ (HG.out.gb.later (Below.refl _ _).drew) (by decide)).mono ?_
 rintro e V ⟨bs, N, rfl, kbs, HN, HM, hb⟩
 have hNe : N = n11 := HN.out
 subst hNe
 refine ko hK (hH.trans hb) fun hH => ?_; clear hK K
 clear hb HN
 refine tn 1 ?_
 have hsy : V.rangeAt bs 0 (nc10 n11) := (Ao.join3 HM.out.sy.ao HM.out.ho HM.out.co).rng
 refine rdy 2 (fun K hK => ?_)
 refine wp_load_mid 66 (.tmp 11) rfl bs 0 rfl (nc10 n11) _ hsy Tryz.underlying66 rfl (by rw [nc10_len n11_bn]; kernel_rfl) ?_
 refine ko hK hH fun hH => ?_; clear hK K
 clear hsy HM kbs
 refine tnl 6 (.agg (zc11 f ss sf n11).toArray) ?_ (hy := by exact yieldsIf_build_four (by rfl) rfl (.agg (nc10 n11).toArray) (.bool f) (.agg (List.map (Value.int .u8) ss).toArray) (.agg (List.map (Value.int .u8) sf).toArray) _ rfl rfl rfl rfl (build_shake f HSn.out.len HEn.out.len n11_bn.len))
 have hGV : Gs V := HG.out.later hH
 have Z0 : Hid (Zs (V.alloc (.cells (zc11 f ss sf n11).toArray 68)) V.heap.size f ss sf ⟨z9l, false, 0, n11, n11⟩ ⟨z9l, z9l, false⟩ false 0) := zs_new V f HSn.out HEn.out n11_bn hGV 68
 have kVs := hH.size
 refine rdy 7 (fun K hK => ?_)
 go_simp
 have hb := bel1 V (.cells (zc11 f ss sf n11).toArray 68)
 refine ko hK (hH.trans hb) fun hH => ?_; clear hK K
 obtain ⟨W1, hW1⟩ : ∃ W, W = V.alloc (.cells (zc11 f ss sf n11).toArray 68) := ⟨_, rfl⟩
 obtain ⟨b, hbn⟩ : ∃ q, q = V.heap.size := ⟨_, rfl⟩
 rw [← hW1, ← hbn] at Z0
 rw [← hW1] at hH hb ⊢
 rw [← hbn] at kVs ⊢
 clear hW1 hbn hb hGV
 refine tn 8 ?_
 refine wpAnyH_done (by kernel_rfl) ?_ _
 refine NoPanic.normal ?_
 have hb2 : Below W0.heap.size W0 W1 := hH
 replace HG := hidp (HG.out.later hb2)
 replace HR := hidp (HR.out.below hb2)
 have kb : w.heap.size ≤ b := Nat.le_trans HB.out.size kVs
 replace HB := hidp (HB.out.trans (hb2.mono HB.out.size))
 clear hb2 hH A6 A7 kVs hi6 hi7
 go_wp2_with fail
 refine (mixhash10_c b z9l false 0 n11 n11 a len cap pr _ Z0.out.my HR.out HG.out.gb hm).mono ?_
 rintro e V3 ⟨rfl, HM, hx⟩
 have HZ : Hid (Zs V3 b f ss sf (s11 pr) ⟨z9l, z9l, false⟩ false 0) := (Z0.out.sym HM.out hx).is rfl
 have HB3 : Hid (Below w.heap.size w V3) := hx.ext.below HB.out kb
 clear HM hx Z0 HB HG HR
 go_wp2
 go_ret
 exact ⟨b, rfl, kb, HZ, HB3.out⟩
end Go.Proofs.YtlnbjehimabaiaaGreatDoor
/-
 A text that is gone through, in a block of its own; the tokens of a step. No statement of the seat is proved here.
-/
namespace Go.Proofs.YtlnbjehimabaiaaGreatDoor
open Go.RowKit
set_option maxRecDepth 8000

theorem extb_iterAt (w : World) (k : Nat) (s : ByteArray) (p : Nat) : ExtB k w (w.iterAt k s p) := ⟨rfl, rfl, rfl, by rw [Lib.iterAt_size]; exact Nat.le_refl _, fun i _ hne => Lib.iterAt_other w k i s p hne⟩
theorem extb_iter {b k : Nat} {w u : World} (h : ExtB b w u) (hk : w.heap.size ≤ k) (s : ByteArray) (p : Nat) : ExtB b w (u.iterAt k s p) :=
 ⟨h.os, h.tape, h.output, by rw [Lib.iterAt_size]; exact h.size, fun i hi hne => (Lib.iterAt_other u k i s p (by omega)).trans (h.block i hi hne)⟩
/-- Where an iterator lies no bytes lie. -/
theorem nq_iter {u : World} {k n c q : Nat} {a : Option Addr} {l : List Int} {s : ByteArray} (h : Rd u a n c l) (hk : u.heap[k]? = some (.stringIter s q)) : Nq k a n := fun h0 p hp => by
 obtain ⟨b, off, ha, hc⟩ := h.cell h0
 rw [ha] at hp
 cases hp
 intro e
 have e : b = k := e
 subst e
 have h1 := hc 0 h0
 unfold World.cell? at h1
 simp [hk] at h1
theorem tk_mem {st j : Nat} {t : Int} (h : (tk11 st)[j]? = some t) : t = 101 ∨ t = 115 ∨ t = 61 ∨ t = 62 ∨ t = 60 := by
 have h1 : t ∈ tk11 st := List.mem_of_getElem? h
 unfold tk11 at h1
 split at h1
 ·simp at h1
  omega
 ·split at h1 <;> simp at h1 <;> omega
theorem tk_drop {st j : Nat} {t : Int} (h : (tk11 st)[j]? = some t) : (tk11 st).drop j = t :: (tk11 st).drop (j + 1) := by
 obtain ⟨hj, e⟩ := List.getElem?_eq_some_iff.1 h
 rw [List.drop_eq_getElem_cons hj, e]
theorem tk_len (st : Nat) : (tk11 st).length ≤ 4 := by
 unfold tk11
 split
 ·decide
 ·split <;> decide
theorem sx9_byt (k : List Int) (h : Bool) (n : Int) (H : List Int) {t : List Int} (ht : Byt t) : Byt (sx9 k h n H t) := by
 unfold sx9
 split
 ·split
  ·exact Byt.nil
  ·exact se6_byt _ _ _ ht
 ·exact ht
end Go.Proofs.YtlnbjehimabaiaaGreatDoor
