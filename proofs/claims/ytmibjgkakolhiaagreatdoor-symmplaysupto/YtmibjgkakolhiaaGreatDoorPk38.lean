/-
  Several texts of one's own, laid together. No statement of the seat is proved here.
-/
import Derived.Test.YtmibjgkakolhiaaGreatDoorERD
import Derived.Test.YtmibjgkakolhiaaGreatDoorPk33
import Derived.Test.YtmibjgkakolhiaaGreatDoorPk1
import Derived.Test.YtmibjgkakolhiaaGreatDoorPk34
import Derived.Test.YtmibjgkakolhiaaGreatDoorPk13
import Derived.Test.YtmibjgkakolhiaaGreatDoorPk15
import Derived.Test.YtmibjgkakolhiaaGreatDoorPk16
import Derived.Test.YtmibjgkakolhiaaGreatDoorPk3
import Derived.Test.YtmibjgkakolhiaaGreatDoorPTag
/-
 What kdf's Derive and the reference's make of two keys and of three, key by key; where they make none. No statement of the seat is proved here.
-/
namespace Go.Proofs.YtmibjgkakolhiaaGreatDoor
open Go.RowKit

set_option maxRecDepth 8000 in
theorem rderive2_l (chain : List Int) (a : Option Addr) (len cap : Nat) (input : List Int) (hc : Bn 32 chain) (w : World) (hr : Rd w a len cap input) (hg : Gq w) (hT : 64 + len ≤ 140737488355328) :
  Calls Tryz.prog 27 #[(.agg (List.map (Value.int .u8) chain).toArray), .slice a len cap, .int .i64 2] w fun e w' => ∃ g c A, e = .returned (.slice (some ⟨g, 0, none⟩) 2 c) ∧ Hid (A = ky8 (hm8 chain input) 1) ∧ Hid (w'.rangeAt g 0 (List.map (Value.int .u8) A)) ∧ Below w.heap.size w w' :=
 (rderive_yes chain a len cap input 2 hc (.inl rfl) w hr hg hT).mono fun _ _ ⟨g, c, h, hR, hb⟩ => ⟨g, c, _, h, rfl, (two_of hR.out).1, hb⟩
/-- The keys, for any number. -/
def kn8 (T : List Int) (n : Nat) : List (List Int) := if n = 2 ∨ n = 3 then kl8 T n else []
set_option maxRecDepth 8000 in
theorem derive_n (chain : List Int) (a : Option Addr) (len cap : Nat) (input : List Int) (n : Nat) (hc : Bn 32 chain) (w : World) (hr : Rd w a len cap input) (hg : Gb w) (hT : 64 + len ≤ 4611686018427387904) :
  Calls Tryz.prog 25 #[(.agg (List.map (Value.int .u8) chain).toArray), .slice a len cap, .int .i64 n] w fun e w' => ∃ p m c L, e = .returned (.slice p m c) ∧ Hid (L = kn8 (hm8 chain input) n) ∧ Hid (RdA w' p m L) ∧ m ≤ 3 ∧ Below w.heap.size w w' := by
 by_cases hn : n = 2 ∨ n = 3
 ·refine (derive_yes chain a len cap input n hc hn w hr hg hT).mono fun _ _ ⟨g, h, hR, hb⟩ => ⟨_, n, n, _, h, ?_, hR, by omega, hb⟩
  unfold Hid kn8
  rw [if_pos hn]
 ·refine (derive_no chain a len cap n (by omega) (by omega) w).mono fun _ _ ⟨h, hb⟩ => ⟨none, 0, 0, _, h, ?_, RdA.nil _ _, Nat.zero_le _, hb⟩
  unfold Hid kn8
  rw [if_neg hn]
set_option maxRecDepth 8000 in
theorem rderive_n (chain : List Int) (a : Option Addr) (len cap : Nat) (input : List Int) (n : Nat) (hc : Bn 32 chain) (w : World) (hr : Rd w a len cap input) (hg : Gq w) (hT : 64 + len ≤ 140737488355328) :
  Calls Tryz.prog 27 #[(.agg (List.map (Value.int .u8) chain).toArray), .slice a len cap, .int .i64 n] w fun e w' => ∃ p m c L, e = .returned (.slice p m c) ∧ Hid (L = kn8 (hm8 chain input) n) ∧ Hid (RdA w' p m L) ∧ Below w.heap.size w w' := by
 by_cases hn : n = 2 ∨ n = 3
 ·refine (rderive_yes chain a len cap input n hc hn w hr hg hT).mono fun _ _ ⟨g, c, h, hR, hb⟩ => ⟨_, n, c, _, h, ?_, hR, hb⟩
  unfold Hid kn8
  rw [if_pos hn]
 ·refine (rderive_no chain a len cap n (by omega) (by omega) w).mono fun _ _ ⟨h, hb⟩ => ⟨none, 0, 0, _, h, ?_, RdA.nil _ _, hb⟩
  unfold Hid kn8
  rw [if_neg hn]
end Go.Proofs.YtmibjgkakolhiaaGreatDoor
/-
 What the reference's Cipher's Init does where it is embedded. No statement of the seat is proved here.
-/
namespace Go.Proofs.YtmibjgkakolhiaaGreatDoor
open Go.RowKit

set_option maxRecDepth 8000 in
set_option maxHeartbeats 2000000 in
theorem rinit9_o (b o : Nat) (k : List Int) (h : Bool) (n : Int) (key : List Int) (hk : Bn 32 key) (w : World) (hs : Cy w b o k h n) :
  Calls Tryz.prog 28 #[.pointer (some ⟨b, o, none⟩), (.agg (List.map (Value.int .u8) key).toArray)] w fun e w' => e = .returned (.tuple #[]) ∧ Hid (Cy w' b o key true 0) ∧ ExtR b o 34 w w' := by
 have HS : Hid (Cy w b o k h n) := hs
 have HK : Hid (Bn 32 key) := hk
 clear hs hk
 go_enter Tryz.func28, Tryz.ntmps28
 go_upto_region 1 with fail
 have AK : Hid (Ar (w.alloc (.cells (List.map (Value.int .u8) key).toArray 33)) w.heap.size 32 (List.map (Value.int .u8) key)) := ar_box w _ 32 HK.out.map_len _
 have HB : Hid (Below w.heap.size w (w.alloc (.cells (List.map (Value.int .u8) key).toArray 33))) := bel1 _ _
 have HE : Hid (ExtR b o 34 w (w.alloc (.cells (List.map (Value.int .u8) key).toArray 33))) := ExtR.of (bel1 _ _) HS.out.lt
 have hbq : b ≠ w.heap.size := by have := HS.out.lt; omega
 obtain ⟨W0, hW0⟩ : ∃ W, W = (w.alloc (.cells (List.map (Value.int .u8) key).toArray 33)) := ⟨_, rfl⟩
 obtain ⟨q3, hq3⟩ : ∃ q, q = w.heap.size := ⟨_, rfl⟩
 rw [← hW0] at AK HB HE ⊢
 rw [← hq3] at AK hbq ⊢
 clear hW0 hq3
 replace HS := hidp (HS.out.later HB.out)
 clear HB
 obtain ⟨ch, fh⟩ := HS.out.has
 go_upto_region 2 with fail
 replace HS : Hid (Cy (W0.setCell ⟨b, o, none⟩ (.bool true)) b o k true n) := HS.out.setHas true
 replace AK : Hid (Ar (W0.setCell ⟨b, o, none⟩ (.bool true)) q3 32 (List.map (Value.int .u8) key)) := AK.out.else b o (Ne.symm hbq) _
 replace HE : Hid (ExtR b o 34 w (W0.setCell ⟨b, o, none⟩ (.bool true))) := HE.out.set o (by omega) (by omega) _
 obtain ⟨W1, hW1⟩ : ∃ W, W = (W0.setCell ⟨b, o, none⟩ (.bool true)) := ⟨_, rfl⟩
 rw [← hW1] at AK HS HE ⊢
 clear hW1 ch fh
 obtain ⟨hlen', hone, hi⟩ := bn32_cells HK.out
 have hth := HS.out.keyThere
 have hR := AK.out.rng
 obtain ⟨cs, hcs⟩ : ∃ cs, cs = (List.map (Value.int .u8) key) := ⟨_, rfl⟩
 have HC : Hid (cs = (List.map (Value.int .u8) key)) := hcs
 rw [← hcs] at hlen' hone hi hR
 clear hcs
 go_upto_region 3 with (first
  | (refine wpList_load_mid rfl 33 (.tmp 3) rfl q3 0 rfl cs _ hR Tryz.underlying33 rfl hi ?_)
  | (refine wpList_store_mid rfl 33 (.tmp 10) (.tmp 8) rfl b (o + 1) cs.toArray rfl rfl (by simpa [hlen'] using hth) (by simpa using hi) (all_oneCell_toArray hone) ?_))
 replace HS : Hid (Cy (W1.setCells b (o + 1) cs) b o key true n) := by rw [HC.out]; exact HS.out.setKey HK.out
 replace HE : Hid (ExtR b o 34 w (W1.setCells b (o + 1) cs)) := ExtR.cells _ (o + 1) HE.out (by omega) (by omega)
 obtain ⟨W2, hW2⟩ : ∃ W, W = (W1.setCells b (o + 1) cs) := ⟨_, rfl⟩
 rw [← hW2] at HS HE ⊢
 clear hW2 hlen' hone hi hR hth HC AK
 obtain ⟨cn, fn⟩ := HS.out.nonce
 go_wp2
 go_end0
 exact ⟨rfl, HS.out.setN (by decide), HE.out.set (o + 33) (by omega) (by omega) _⟩
end Go.Proofs.YtmibjgkakolhiaaGreatDoor
/-
 What the reference's Symm's MixKey does. No statement of the seat is proved here.
-/
namespace Go.Proofs.YtmibjgkakolhiaaGreatDoor
open Go.RowKit

set_option maxRecDepth 8000 in
theorem rderive2_b (chain : List Int) (a : Option Addr) (len cap : Nat) (input : List Int) (hc : Bn 32 chain) (w : World) (hr : Rd w a len cap input) (hg : Gq w) (hT : 64 + len ≤ 140737488355328) :
  Calls Tryz.prog 27 #[(.agg (List.map (Value.int .u8) chain).toArray), .slice a len cap, .int .i64 2] w fun e w' => ∃ g c A B, e = .returned (.slice (some ⟨g, 0, none⟩) 2 c) ∧ Hid (A = ky8 (hm8 chain input) 1) ∧ Hid (B = ky8 (hm8 chain input) 2) ∧ Hid (w'.rangeAt g 0 (List.map (Value.int .u8) A)) ∧ Hid (w'.rangeAt g 32 (List.map (Value.int .u8) B)) ∧ Below w.heap.size w w' :=
 (rderive_yes chain a len cap input 2 hc (.inl rfl) w hr hg hT).mono fun _ _ ⟨g, c, h, hR, hb⟩ => ⟨g, c, _, _, h, rfl, rfl, (two_of hR.out).1, (two_of hR.out).2, hb⟩
set_option maxRecDepth 8000 in
set_option maxHeartbeats 4000000 in
theorem rmixkey10_c (b : Nat) (k : List Int) (h : Bool) (n : Int) (H C : List Int) (a : Option Addr) (len cap : Nat) (x : List Int) (w : World) (hs : Ny w b k h n H C) (hr : Rd w a len cap x) (hg : Gq w) (hm : len ≤ 140737488351248) :
  Calls Tryz.prog 9 #[.pointer (some ⟨b, 0, none⟩), .slice a len cap] w fun e w' => ∃ K C', e = .returned (.tuple #[]) ∧ Hid (C' = ky8 (hm8 C x) 1) ∧ Hid (K = ky8 (hm8 C x) 2) ∧ Hid (Ny w' b K true 0 H C') ∧ ExtB b w w' := by
 have HS : Hid (Ny w b k h n H C) := hs
 have HG : Hid (Gq w) := hg
 have HR : Hid (Rd w a len cap x) := hr
 have hRC := hs.co.rng
 obtain ⟨_, _, hiC⟩ := bn32_cells hs.bc
 clear hs hr hg
 go_enter Tryz.func9, Tryz.ntmps9
 go_wp2_with (refine wpList_load_mid rfl 33 (.tmp 7) rfl b 66 rfl (List.map (Value.int .u8) C) _ hRC Tryz.underlying33 rfl hiC ?_)
 clear hRC hiC
 refine (rderive2_b C a len cap x HS.out.bc _ HR.out HG.out (by omega)).mono ?_
 rintro e V ⟨g, gc, A, B, rfl, HA, HBB, RA, RB, hb⟩
 replace HS := hidp (HS.out.later hb)
 have HE : Hid (ExtB b w V) := extb_of hb
 have HAn : Hid (Bn 32 A) := by unfold Hid; rw [HA.out]; exact ky8_bn _ 0
 have HBn : Hid (Bn 32 B) := by unfold Hid; rw [HBB.out]; exact ky8_bn _ 1
 have hgb : g ≠ b := HS.out.far HAn.out RA.out
 clear hb HR HG
 obtain ⟨hlen', hone, hi⟩ := bn32_cells HAn.out
 have hR := RA.out
 obtain ⟨cs, hcs⟩ : ∃ cs, cs = (List.map (Value.int .u8) A) := ⟨_, rfl⟩
 have HCS : Hid (cs = (List.map (Value.int .u8) A)) := hcs
 rw [← hcs] at hlen' hone hi hR
 clear hcs RA
 have hth := HS.out.co.all
 go_upto_region 2 with (first
  | (refine wpList_load_mid rfl 33 (.tmp 13) rfl g 0 rfl cs _ hR Tryz.underlying33 rfl hi ?_)
  | (refine wpList_store_mid rfl 33 (.tmp 16) (.tmp 14) rfl b 66 cs.toArray rfl rfl (by simpa [hlen'] using hth) (by simpa using hi) (all_oneCell_toArray hone) ?_))
 have hx : ExtB b V (V.setCells b 66 cs) := extB_setCells _ _ _ (ExtB.refl _ _)
 replace RB : Hid ((V.setCells b 66 cs).rangeAt g 32 (List.map (Value.int .u8) B)) := fun j v hv => hx.cell hgb (RB.out j v hv)
 replace HE : Hid (ExtB b w (V.setCells b 66 cs)) := HE.out.comp hx
 replace HS : Hid (Ny (V.setCells b 66 cs) b k h n H A) := by unfold Hid; rw [HCS.out]; exact HS.out.setC HAn.out
 obtain ⟨W2, hW2⟩ : ∃ W, W = V.setCells b 66 cs := ⟨_, rfl⟩
 rw [← hW2] at RB HE HS ⊢
 clear hW2 hx hth hR hlen' hone hi HCS
 obtain ⟨_, _, hiB⟩ := bn32_cells HBn.out
 go_upto_region 2 with fail
 refine wp_region_noPanic ?_
 refine wp_region_held_drew (S := ExtB b W2) (by kernel_rfl) (ExtB.refl b W2).drew (fun hH => ?_)
 change wpAnyH _ _ _ _ _ _ #[false, false, false, false, false, false, false] _ _
 refine tk 0 ?_
 try simp only [Act.put, List.setIfInBounds_toArray, List.set_cons_zero, List.set_cons_succ]
 refine tk 1 ?_
 try simp only [Act.put, List.setIfInBounds_toArray, List.set_cons_zero, List.set_cons_succ]
 refine tk 2 ?_
 try simp only [Act.put, List.setIfInBounds_toArray, List.set_cons_zero, List.set_cons_succ]
 refine tk 3 ?_
 try simp only [Act.put, List.setIfInBounds_toArray, List.set_cons_zero, List.set_cons_succ]
 refine tk 4 ?_
 try simp only [Act.put, List.setIfInBounds_toArray, List.set_cons_zero, List.set_cons_succ]
 refine tkl 5 (.agg (List.map (Value.int .u8) B).toArray) ?_ (hy := by exact yieldsIf_load_mid (by rfl) 33 (.tmp 21) rfl g 32 rfl (List.map (Value.int .u8) B) _ (fun u hu j v hv => ExtB.cell hu hgb (RB.out j v hv)) Tryz.underlying33 rfl hiB)
 try simp only [Act.put, List.setIfInBounds_toArray, List.set_cons_zero, List.set_cons_succ]
 refine rdy 6 (fun K hK => ?_)
 go_simp
 refine (rinit9_o b 0 k h n B HBn.out _ HS.out.drew.cy).mono ?_
 rintro e V3 ⟨rfl, HT, hx⟩
 refine hK.out _ _ ((ExtB.refl b W2).drew.comp hx.ext) (fun hH' => ?_)
 clear hK K hH; have hH := hH'; clear hH'; try simp only [List.setIfInBounds_toArray, List.set]
 refine wpAnyH_done (by kernel_rfl) ?_ _
 refine NoPanic.normal ?_
 replace HS := hidp (HS.out.drew.cip HT.out hx)
 replace HE : Hid (ExtB b w V3) := HE.out.comp hH
 clear HT hx RB hiB hH
 go_wp2
 go_end0
 exact ⟨B, A, rfl, HA, HBB, HS, HE.out⟩
end Go.Proofs.YtmibjgkakolhiaaGreatDoor
/-
 What the reference's Symm's Split does. No statement of the seat is proved here.
-/
namespace Go.Proofs.YtmibjgkakolhiaaGreatDoor
open Go.RowKit

set_option maxRecDepth 8000 in
theorem build_rcipher {l0 : List Int} (h0 : l0.length = 32) (w : World) : Sem.run Tryz.prog (Instr.build 36 #[(0, .bool true), (1, .agg (List.map (Value.int .u8) l0).toArray)]) w = .ok (.agg (rc9 l0 true 0).toArray) w := by
 obtain ⟨a0, l1, rfl, h1⟩ := cons_of h0
 obtain ⟨a1, l2, rfl, h2⟩ := cons_of h1
 obtain ⟨a2, l3, rfl, h3⟩ := cons_of h2
 obtain ⟨a3, l4, rfl, h4⟩ := cons_of h3
 obtain ⟨a4, l5, rfl, h5⟩ := cons_of h4
 obtain ⟨a5, l6, rfl, h6⟩ := cons_of h5
 obtain ⟨a6, l7, rfl, h7⟩ := cons_of h6
 obtain ⟨a7, l8, rfl, h8⟩ := cons_of h7
 obtain ⟨a8, l9, rfl, h9⟩ := cons_of h8
 obtain ⟨a9, l10, rfl, h10⟩ := cons_of h9
 obtain ⟨a10, l11, rfl, h11⟩ := cons_of h10
 obtain ⟨a11, l12, rfl, h12⟩ := cons_of h11
 obtain ⟨a12, l13, rfl, h13⟩ := cons_of h12
 obtain ⟨a13, l14, rfl, h14⟩ := cons_of h13
 obtain ⟨a14, l15, rfl, h15⟩ := cons_of h14
 obtain ⟨a15, l16, rfl, h16⟩ := cons_of h15
 obtain ⟨a16, l17, rfl, h17⟩ := cons_of h16
 obtain ⟨a17, l18, rfl, h18⟩ := cons_of h17
 obtain ⟨a18, l19, rfl, h19⟩ := cons_of h18
 obtain ⟨a19, l20, rfl, h20⟩ := cons_of h19
 obtain ⟨a20, l21, rfl, h21⟩ := cons_of h20
 obtain ⟨a21, l22, rfl, h22⟩ := cons_of h21
 obtain ⟨a22, l23, rfl, h23⟩ := cons_of h22
 obtain ⟨a23, l24, rfl, h24⟩ := cons_of h23
 obtain ⟨a24, l25, rfl, h25⟩ := cons_of h24
 obtain ⟨a25, l26, rfl, h26⟩ := cons_of h25
 obtain ⟨a26, l27, rfl, h27⟩ := cons_of h26
 obtain ⟨a27, l28, rfl, h28⟩ := cons_of h27
 obtain ⟨a28, l29, rfl, h29⟩ := cons_of h28
 obtain ⟨a29, l30, rfl, h30⟩ := cons_of h29
 obtain ⟨a30, l31, rfl, h31⟩ := cons_of h30
 obtain ⟨a31, l32, rfl, h32⟩ := cons_of h31
 obtain rfl := List.eq_nil_of_length_eq_zero h32
 kernel_rfl
set_option maxRecDepth 8000 in
theorem yieldsIf_build_two {ops : Array Oper} {S : World → Prop} {op : Oper} {a : Act} (hw : Region.wanted op (yielded ops a.tmps) = true) {t : TypeId} {i j : Nat} {p q : Operand} (ho : op.op = Op.build t #[(i, p), (j, q)]) (x y v : Value) (hx : a.eval p = x) (hy : a.eval q = y)
  (hr : ∀ w, Sem.run Tryz.prog (Instr.build t #[(i, x), (j, y)]) w = .ok v w) : YieldsIf Tryz.prog ops S op v a :=
 .inl ⟨hw, fun w _ => by
  unfold execOp
  rw [ho]
  have e1 : Array.map (fun x : Nat × Operand => match x with | (i, x) => (i, a.eval x)) #[(i, p), (j, q)] = #[(i, x), (j, y)] := by
   rw [← hx, ← hy]
   simp
  show Sem.run Tryz.prog (do let r ← Instr.build t (Array.map (fun x : Nat × Operand => match x with | (i, x) => (i, a.eval x)) #[(i, p), (j, q)]); pure (Next.value r)) w = _
  rw [e1, Sem.run_bind, hr]
  rfl⟩
set_option maxRecDepth 8000 in
set_option maxHeartbeats 4000000 in
theorem rsplit10_c (b : Nat) (k : List Int) (h : Bool) (n : Int) (H C : List Int) (w : World) (hs : Ny w b k h n H C) (hg : Gq w) :
  Calls Tryz.prog 16 #[.pointer (some ⟨b, 0, none⟩)] w fun e w' => ∃ c d A B, e = .returned (.tuple #[.pointer (some ⟨c, 0, none⟩), .pointer (some ⟨d, 0, none⟩)]) ∧ Hid (A = ky8 (hm8 C []) 1) ∧ Hid (B = ky8 (hm8 C []) 2) ∧ Hid (Cx w' c A true 0) ∧ Hid (Cx w' d B true 0) ∧ Below w.heap.size w w' := by
 have HS : Hid (Ny w b k h n H C) := hs
 have HG : Hid (Gq w) := hg
 have hRC := hs.co.rng
 obtain ⟨_, _, hiC⟩ := bn32_cells hs.bc
 clear hs hg
 go_enter Tryz.func16, Tryz.ntmps16
 go_wp2_with (refine wpList_load_mid rfl 33 (.tmp 7) rfl b 66 rfl (List.map (Value.int .u8) C) _ hRC Tryz.underlying33 rfl hiC ?_)
 clear hRC hiC
 refine (rderive2_b C none 0 0 [] HS.out.bc _ (Rd.nil _ _ _ (fun _ => rfl)) HG.out (by decide)).mono ?_
 rintro e V ⟨g, gc, A, B, rfl, HA, HBB, RA, RB, hb⟩
 have HB : Hid (Below w.heap.size w V) := hb
 have HAn : Hid (Bn 32 A) := by unfold Hid; rw [HA.out]; exact ky8_bn _ 0
 have HBn : Hid (Bn 32 B) := by unfold Hid; rw [HBB.out]; exact ky8_bn _ 1
 obtain ⟨_, _, hiA⟩ := bn32_cells HAn.out
 obtain ⟨_, _, hiB⟩ := bn32_cells HBn.out
 clear hb HS HG
 go_upto_region 2 with fail
 refine wp_region_noPanic ?_
 refine wp_region_held_drew (S := Ext V) (by kernel_rfl) (Ext.refl _).drew (fun hH => ?_)
 change wpAnyH _ _ _ _ _ _ #[false, false, false, false, false, false, false, false, false, false, false, false] _ _
 refine tk 0 ?_
 try simp only [Act.put, List.setIfInBounds_toArray, List.set_cons_zero, List.set_cons_succ]
 refine tk 1 ?_
 try simp only [Act.put, List.setIfInBounds_toArray, List.set_cons_zero, List.set_cons_succ]
 refine tkl 2 (.agg (List.map (Value.int .u8) A).toArray) ?_ (hy := by exact yieldsIf_load_mid (by rfl) 33 (.tmp 11) rfl g 0 rfl (List.map (Value.int .u8) A) _ (fun u hu => range_later hu RA.out) Tryz.underlying33 rfl hiA)
 try simp only [Act.put, List.setIfInBounds_toArray, List.set_cons_zero, List.set_cons_succ]
 refine tkl 3 (.agg (rc9 A true 0).toArray) ?_ (hy := by exact yieldsIf_build_two (by rfl) rfl (.bool true) (.agg (List.map (Value.int .u8) A).toArray) _ rfl rfl (build_rcipher HAn.out.len))
 try simp only [Act.put, List.setIfInBounds_toArray, List.set_cons_zero, List.set_cons_succ]
 refine tk 5 ?_
 try simp only [Act.put, List.setIfInBounds_toArray, List.set_cons_zero, List.set_cons_succ]
 refine tk 6 ?_
 try simp only [Act.put, List.setIfInBounds_toArray, List.set_cons_zero, List.set_cons_succ]
 refine tkl 7 (.agg (List.map (Value.int .u8) B).toArray) ?_ (hy := by exact yieldsIf_load_mid (by rfl) 33 (.tmp 16) rfl g 32 rfl (List.map (Value.int .u8) B) _ (fun u hu => range_later hu RB.out) Tryz.underlying33 rfl hiB)
 try simp only [Act.put, List.setIfInBounds_toArray, List.set_cons_zero, List.set_cons_succ]
 refine tkl 8 (.agg (rc9 B true 0).toArray) ?_ (hy := by exact yieldsIf_build_two (by rfl) rfl (.bool true) (.agg (List.map (Value.int .u8) B).toArray) _ rfl rfl (build_rcipher HBn.out.len))
 try simp only [Act.put, List.setIfInBounds_toArray, List.set_cons_zero, List.set_cons_succ]
 obtain ⟨y0, hy0⟩ : ∃ U, U = V.drew := ⟨_, rfl⟩
 rw [← hy0] at hH ⊢
 clear hy0
 revert hH
 apply cut3 (F := fun u x y _ => Hid (Ext V u) ∧ Hid (Cx u x A true 0) ∧ Hid (Cx u y B true 0) ∧ V.heap.size ≤ x ∧ V.heap.size ≤ y)
 case h =>
  intro hrest hH
  obtain ⟨dm, -⟩ : ∃ l : List Int, l = [] := ⟨_, rfl⟩
  refine wpAnyH_ready (rs := [4, 9]) (by kernel_rfl) (by simp) ?_
  refine AllReadyH.cons (o := ?ok1) ?hk1 (fun K hK => ?sk1) (AllReadyH.cons (o := ?ok2) ?hk2 (fun K hK => ?sk2) AllReadyH.nil)
  case hk1 => simp only [List.getElem?_toArray]; rfl
  case hk2 => simp only [List.getElem?_toArray]; rfl
  case sk1 =>
   go_simp
   have hb := bel1 y0 (.cells (rc9 A true 0).toArray 36)
   have XA : Hid (Cx (y0.alloc (.cells (rc9 A true 0).toArray 36)) y0.heap.size A true 0) := cx_new y0 A true 0 HAn.out (by decide) 36
   have kA : V.heap.size ≤ y0.heap.size := hH.size
   refine hK.out _ _ (hH.trans hb) (fun hH' => ?_)
   clear hK K hH; have hH := hH'; clear hH'; try simp only [List.setIfInBounds_toArray, List.set]
   obtain ⟨x1, hnew⟩ : ∃ v, v = (y0.alloc (.cells (rc9 A true 0).toArray 36)) := ⟨_, rfl⟩
   obtain ⟨c, hbn⟩ : ∃ v, v = y0.heap.size := ⟨_, rfl⟩
   rw [← hnew] at XA hH hb ⊢
   rw [← hbn] at XA kA ⊢
   clear hb hnew hbn
   refine tk 10 ?_
   try simp only [Act.put, List.setIfInBounds_toArray, List.set_cons_zero, List.set_cons_succ]
   refine rdy 9 (fun K hK => ?_)
   go_simp
   have hb := bel1 x1 (.cells (rc9 B true 0).toArray 36)
   have XB : Hid (Cx (x1.alloc (.cells (rc9 B true 0).toArray 36)) x1.heap.size B true 0) := cx_new x1 B true 0 HBn.out (by decide) 36
   have kB : V.heap.size ≤ x1.heap.size := hH.size
   refine hK.out _ _ (hH.trans hb) (fun hH' => ?_)
   clear hK K hH; have hH := hH'; clear hH'; try simp only [List.setIfInBounds_toArray, List.set]
   obtain ⟨x2, hnew⟩ : ∃ v, v = (x1.alloc (.cells (rc9 B true 0).toArray 36)) := ⟨_, rfl⟩
   obtain ⟨d, hbn⟩ : ∃ v, v = x1.heap.size := ⟨_, rfl⟩
   rw [← hnew] at XB hH hb ⊢
   rw [← hbn] at XB kB ⊢
   replace XA := hidp (XA.out.later hb)
   clear hb hnew hbn
   exact hrest x2 c d dm ⟨hH, XA, XB, kA, kB⟩
  case sk2 =>
   go_simp
   have hb := bel1 y0 (.cells (rc9 B true 0).toArray 36)
   have XB : Hid (Cx (y0.alloc (.cells (rc9 B true 0).toArray 36)) y0.heap.size B true 0) := cx_new y0 B true 0 HBn.out (by decide) 36
   have kB : V.heap.size ≤ y0.heap.size := hH.size
   refine hK.out _ _ (hH.trans hb) (fun hH' => ?_)
   clear hK K hH; have hH := hH'; clear hH'; try simp only [List.setIfInBounds_toArray, List.set]
   obtain ⟨x3, hnew⟩ : ∃ v, v = (y0.alloc (.cells (rc9 B true 0).toArray 36)) := ⟨_, rfl⟩
   obtain ⟨d, hbn⟩ : ∃ v, v = y0.heap.size := ⟨_, rfl⟩
   rw [← hnew] at XB hH hb ⊢
   rw [← hbn] at XB kB ⊢
   clear hb hnew hbn
   refine rdy 4 (fun K hK => ?_)
   go_simp
   have hb := bel1 x3 (.cells (rc9 A true 0).toArray 36)
   have XA : Hid (Cx (x3.alloc (.cells (rc9 A true 0).toArray 36)) x3.heap.size A true 0) := cx_new x3 A true 0 HAn.out (by decide) 36
   have kA : V.heap.size ≤ x3.heap.size := hH.size
   refine hK.out _ _ (hH.trans hb) (fun hH' => ?_)
   clear hK K hH; have hH := hH'; clear hH'; try simp only [List.setIfInBounds_toArray, List.set]
   obtain ⟨x4, hnew⟩ : ∃ v, v = (x3.alloc (.cells (rc9 A true 0).toArray 36)) := ⟨_, rfl⟩
   obtain ⟨c, hbn⟩ : ∃ v, v = x3.heap.size := ⟨_, rfl⟩
   rw [← hnew] at XA hH hb ⊢
   rw [← hbn] at XA kA ⊢
   replace XB := hidp (XB.out.later hb)
   clear hb hnew hbn
   refine tk 10 ?_
   try simp only [Act.put, List.setIfInBounds_toArray, List.set_cons_zero, List.set_cons_succ]
   exact hrest x4 c d dm ⟨hH, XA, XB, kA, kB⟩
 case hr =>
  rintro u c d _ ⟨hE, XA, XB, kA, kB⟩
  have hH := hE.out
  clear hE
  refine tk 11 ?_
  try simp only [Act.put, List.setIfInBounds_toArray, List.set_cons_zero, List.set_cons_succ]
  refine wpAnyH_done (by kernel_rfl) ?_ _
  refine NoPanic.normal ?_
  have hb2 : Below V.heap.size V u := hH
  replace HB := hidp (HB.out.trans (hb2.mono HB.out.size))
  clear hH hb2 RA RB hiA hiB
  go_wp2
  go_ret2
  exact ⟨c, d, A, B, rfl, HA, HBB, XA, XB, HB.out⟩
end Go.Proofs.YtmibjgkakolhiaaGreatDoor
/-
 What portholehand's Secret does: thirty-two bytes of a number (over KGen: no field). No statement of the seat is proved here.
-/
namespace Go.Proofs.YtmibjgkakolhiaaGreatDoor
open Go.RowKit

/-- The next number, and the bytes of those behind it. -/
def lcg (x : Int) : Int := (x * 6364136223846793005 + 1442695040888963407) % 18446744073709551616
def sst (x : Int) : Nat → Int
 | 0 => x
 | k + 1 => lcg (sst x k)
def sby (x : Int) : Nat → List Int
 | 0 => []
 | k + 1 => sby x k ++ [sst x (k + 1) / 1099511627776 % 256]
def sec (n : Int) : List Int := sby (lcg (n % 18446744073709551616)) 32
set_option maxRecDepth 8000 in
theorem sby_len (x : Int) : ∀ k, (sby x k).length = k
 | 0 => rfl
 | k + 1 => by rw [sby, List.length_append, sby_len x k]; rfl
set_option maxRecDepth 8000 in
theorem sby_byt (x : Int) : ∀ k, Byt (sby x k)
 | 0 => fun _ h => by simp [sby] at h
 | k + 1 => fun y h => by
  rw [sby, List.mem_append] at h
  rcases h with h | h
  ·exact sby_byt x k y h
  ·rw [List.mem_singleton.1 h]
   omega
set_option maxRecDepth 8000 in
theorem sec_bn (n : Int) : Bn 32 (sec n) := ⟨sby_len _ _, sby_byt _ _⟩
set_option maxRecDepth 8000 in
theorem lcg_wd (x : Int) : 0 ≤ lcg x ∧ lcg x < 18446744073709551616 := ⟨by unfold lcg; omega, by unfold lcg; omega⟩

end Go.Proofs.YtmibjgkakolhiaaGreatDoor
/-
 Slices of words that hold digits from 0 to 255, for the reference's numbers. No statement of the seat is proved here.
-/
namespace Go.Proofs.YtmibjgkakolhiaaGreatDoor
open Go.RowKit

set_option maxRecDepth 8000 in
theorem infoU : (Tryz.prog.info? 63).map (fun i => (i.zero, i.size, i.bytes)) = some (some (.int .u32 0), 1, 4) := by kernel_rfl
/-- A slice of words that reads as digits. -/
structure Ru (w : World) (a : Option Addr) (len cap : Nat) (l : List Int) : Prop where
 hlen : l.length = len
 hle : len ≤ cap
 byt : Byt l
 cell : 0 < len → ∃ b off, a = some ⟨b, off, none⟩ ∧ ∀ i, i < len → w.cell? ⟨b, off + i, none⟩ = some (.int .u32 (l[i]?.getD 0))
set_option maxRecDepth 8000 in
theorem Ru.below {w w' : World} {a : Option Addr} {len cap : Nat} {l : List Int} (h : Ru w a len cap l) (hb : Below w.heap.size w w') : Ru w' a len cap l :=
 ⟨h.hlen, h.hle, h.byt, fun h0 => by
  obtain ⟨b, off, ha, hc⟩ := h.cell h0
  exact ⟨b, off, ha, fun i hi => cell_later hb (hc i hi)⟩⟩
set_option maxRecDepth 8000 in
theorem Ru.nil (w : World) (a : Option Addr) (cap : Nat) : Ru w a 0 cap [] := ⟨rfl, Nat.zero_le _, Byt.nil, fun h => by omega⟩
set_option maxRecDepth 8000 in
theorem Ru.owns {w : World} {base : Nat} {e : TypeId} {a : Option Addr} {n cap : Nat} {l : List Int} (hb : Byt l) (h : w.ownsRow base e 1 (.slice a n cap) n (l.map (Value.int .u32))) : Ru w a n cap l := by
 have hl : l.length = n := by simpa using h.1
 rcases h.2 with ⟨hv, rfl⟩ | ⟨g, cap', cur, hv, hg, hh, hle, _, hs, ht⟩
 ·have : l = [] := List.eq_nil_of_length_eq_zero hl
  subst this
  cases hv
  exact Ru.nil _ _ _
 ·cases hv
  refine ⟨hl, hle, hb, fun _ => ⟨g, 0, rfl, fun i hi => ?_⟩⟩
  rw [Nat.zero_add, World.ownsRow.cellAt h i (by omega)]
  simp [List.getElem?_eq_getElem (show i < l.length by omega)]
set_option maxRecDepth 8000 in
theorem words_oneCell (l : List Int) : ∀ u ∈ l.map (Value.int .u32), u.oneCell' = true := ints_oneCell _ _
set_option maxRecDepth 8000 in
theorem one_news32 (w : World) (x : Value) (t : TypeId) : ∀ (j : Nat) (u : Value), [x][j]? = some u → (w.alloc (.cells #[x] t)).cell? ((⟨w.heap.size, 0, none⟩ : Addr).add j) = some u := by
 intro j u hu
 have hj : j = 0 := by
  have := (List.getElem?_eq_some_iff.1 hu).1
  simpa using this
 subst hj
 rw [Addr.add_lit, Nat.add_zero, cell_of_row _ _ _ _ _ _ (heap_alloc_new w _)]
 simpa using hu
set_option maxRecDepth 8000 in
/-- A row of one's own stays one. -/
theorem own_later {u v : World} {base n : Nat} {e : TypeId} {x : Value} {xs : List Value} (h : u.ownsRow base e 1 x n xs) (hb : Below u.heap.size u v) : v.ownsRow base e 1 x n xs :=
 h.kept (w' := v) (row := none) ⟨hb.os, hb.tape, hb.output, hb.size, fun k hk _ => hb.block k hk⟩ (by cases hx : x.ownBlock <;> simp)
set_option maxRecDepth 8000 in
theorem Byt.get {l : List Int} (h : Byt l) {i : Nat} (hi : i < l.length) : 0 ≤ l[i] ∧ l[i] ≤ 255 := h _ (List.getElem_mem hi)
set_option maxRecDepth 8000 in
theorem leN_drop (l : List Int) (i : Nat) (h : i < l.length) : leN (l.drop i) = l[i]?.getD 0 + 256 * leN (l.drop (i + 1)) := by
 rw [List.drop_eq_getElem_cons h, leN, List.getElem?_eq_getElem h]
 rfl
set_option maxRecDepth 8000 in
theorem leN_dropN (l : List Int) (i : Nat) (h : l.length ≤ i) : leN (l.drop i) = 0 := by
 rw [List.drop_eq_nil_of_le h]
 rfl
set_option maxRecDepth 8000 in
theorem leN_snoc (l : List Int) (x : Int) : leN (l ++ [x]) = leN l + 256 ^ l.length * x := by
 rw [leN_app, leN, leN]
 simp
set_option maxRecDepth 8000 in
theorem pow_pos (n : Nat) : (0 : Int) < 256 ^ n := Int.pow_pos (by decide)
end Go.Proofs.YtmibjgkakolhiaaGreatDoor
