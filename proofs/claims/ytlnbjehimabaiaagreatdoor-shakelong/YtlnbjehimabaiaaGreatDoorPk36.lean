/-
  Several texts of one's own, laid together. No statement of the seat is proved here.
-/
import Derived.Test.YtlnbjehimabaiaaGreatDoorPk1
import Derived.Test.YtlnbjehimabaiaaGreatDoorPk9
import Derived.Test.YtlnbjehimabaiaaGreatDoorPk35
import Derived.Test.YtlnbjehimabaiaaGreatDoorPk16
import Derived.Test.YtlnbjehimabaiaaGreatDoorPk3
/-
 What symm's nameHash and New do. No statement of the seat is proved here.
-/
namespace Go.Proofs.YtlnbjehimabaiaaGreatDoor
open Go.RowKit
set_option maxRecDepth 8000

set_option maxHeartbeats 4000000 in
theorem namehash_c (s : ByteArray) (w : World) (hg : Gb w) (hs : s.size ≤ 4611686018427387904) :
  Calls Tryz.prog 82 #[.string s] w fun e w' => ∃ N, e = .returned (.agg (List.map (Value.int .u8) N).toArray) ∧ Hid (N = nm10 (sd s)) ∧ Below w.heap.size w w' := by
 have HG : Hid (Gb w) := hg
 have HL : Hid ((sd s).length = s.size) := sd_len s
 clear hg
 go_enter Tryz.func82, Tryz.ntmps82
 go_upto_region 1 with fail
 have HD : Hid ((w.alloc (.cells zb32 30)).there w.heap.size 0 32) := by unfold Hid; exact there_new _ 32 _ rfl _
 have HB : Hid (Below w.heap.size w (w.alloc (.cells zb32 30))) := bel1 _ _
 obtain ⟨W0, hW0⟩ : ∃ W, W = (w.alloc (.cells zb32 30)) := ⟨_, rfl⟩
 obtain ⟨q2, hq2⟩ : ∃ q, q = w.heap.size := ⟨_, rfl⟩
 rw [← hW0] at HD HB ⊢
 have HQ : Hid (q2 = w.heap.size) := hq2
 rw [← hq2] at HD ⊢
 have k1 : q2 < W0.heap.size := there_lt HD.out (by decide)
 clear hW0 hq2
 replace HG := hidp (HG.out.later HB.out)
 by_cases hgt : 32 < s.size
 ·have q1 : (32 : Int) < (s.size : Int) := by omega
  obtain ⟨c, V, hcv, HR, hb⟩ := conv_str s W0
  have hb1 := bel1 V (.cells #[.slice (some ⟨W0.heap.size, 0, none⟩) s.size c] 25)
  have Y1 : Hid (RdL (V.alloc (.cells #[.slice (some ⟨W0.heap.size, 0, none⟩) s.size c] 25)) (some ⟨V.heap.size, 0, none⟩) 1 [sd s]) := RdL.one V _ s.size c _ 25 HR
  go_wp2_with fail
  refine (sum_c (some ⟨V.heap.size, 0, none⟩) 1 1 [sd s] _ Y1.out (HG.out.later (hb.trans (hb1.mono hb.size))) (by decide) (by simp only [List.flatten_cons, List.flatten_nil, List.append_nil]; rw [HL.out]; exact hs)).mono ?_
  rintro e V1 ⟨S1, rfl, HS1, hb2⟩
  replace HS1 : Hid (S1 = nm10 (sd s)) := by
   have := HS1.out
   rw [List.flatten_cons, List.flatten_nil, List.append_nil] at this
   unfold Hid nm10
   rw [if_neg (by rw [HL.out]; omega)]
   exact this
  have hSn : Bn 32 S1 := by rw [HS1.out]; exact nm10_bn (sd_byt s)
  have hb3 : Below W0.heap.size W0 V1 := (hb.trans (hb1.mono hb.size)).trans (hb2.mono (hb.trans (hb1.mono hb.size)).size)
  replace HB := hidp (HB.out.trans (hb3.mono HB.out.size))
  replace HD : Hid (V1.there q2 0 32) := there_later hb3 HD.out
  clear hb hb1 hb2 hb3 Y1 HR HG hcv
  obtain ⟨hlen', hone, hi⟩ := bn32_cells hSn
  obtain ⟨cs, hcs⟩ : ∃ cs, cs = (List.map (Value.int .u8) S1) := ⟨_, rfl⟩
  have HC : Hid (cs = (List.map (Value.int .u8) S1)) := hcs
  rw [← hcs] at hlen' hone hi ⊢
  clear hcs
  have hth := HD.out
  go_wp2_with (refine wpList_store_mid rfl 30 (.tmp 2) (.tmp 10) rfl q2 0 cs.toArray rfl rfl (by simpa [hlen'] using hth) (by simpa using hi) (all_oneCell_toArray hone) ?_)
  have HR2 : Hid ((V1.setCells q2 0 cs).rangeAt q2 0 cs) := World.rangeAt_setCells_same _ _ _ _ (by rw [hlen']; exact hth)
  have hld := run_loadVar_mid (P := Tryz.prog) _ _ 0 30 _ _ HR2.out Tryz.underlying30 rfl hi
  exact bodyPost_ret (v := .agg cs.toArray) (by simp [results, Tryz.results82]; exact hld) rfl ⟨S1, by rw [HC.out], HS1, below_setCells _ (by have := HQ.out; omega) _ _ _ HB.out⟩

 ·have q1 : ¬ (32 : Int) < (s.size : Int) := by omega
  go_upto_region 4 with fail
  have hb := bel1 W0 (.cells zb32 30)
  have AD : Hid (Ar (W0.alloc (.cells zb32 30)) W0.heap.size 32 (List.map (Value.int .u8) (List.replicate 32 0))) := ar_box W0 (List.map (Value.int .u8) (List.replicate 32 0)) 32 rfl 30
  replace HD : Hid ((W0.alloc (.cells zb32 30)).there q2 0 32) := there_later hb HD.out
  replace HB := hidp (HB.out.trans (hb.mono HB.out.size))
  obtain ⟨W2, hW2⟩ : ∃ W, W = W0.alloc (.cells zb32 30) := ⟨_, rfl⟩
  obtain ⟨gb, hgb⟩ : ∃ q, q = W0.heap.size := ⟨_, rfl⟩
  rw [← hW2] at AD HD HB ⊢
  rw [← hgb] at AD k1 ⊢
  have kgw : w.heap.size ≤ gb := by have := HQ.out; omega
  clear hW2 hgb hb HG
  have hcp := fun ty => copy_str W2 gb 0 32 32 s (by omega) (there_part AD.out.all 0 s.size (by omega)) ty
  go_upto_region 5 with fail
  clear hcp
  have AN : Hid (Ar (W2.setCells gb 0 (List.map (Value.int .u8) (sd s))) gb 32 (List.map (Value.int .u8) (nm10 (sd s)))) := by
   have := AD.out.part 0 (List.map (Value.int .u8) (sd s)) (by rw [List.length_map, HL.out]; omega)
   rw [List.length_map, List.take_zero, List.nil_append, ← List.map_drop, ← List.map_append, Nat.zero_add, HL.out, List.drop_replicate] at this
   unfold Hid nm10
   rw [if_pos (by rw [HL.out]; omega), HL.out]
   exact this
  replace HD : Hid ((W2.setCells gb 0 (List.map (Value.int .u8) (sd s))).there q2 0 32) := World.there_setCells HD.out _ _ _
  replace HB : Hid (Below w.heap.size w (W2.setCells gb 0 (List.map (Value.int .u8) (sd s)))) := below_setCells _ kgw _ _ _ HB.out
  obtain ⟨W3, hW3⟩ : ∃ W, W = W2.setCells gb 0 (List.map (Value.int .u8) (sd s)) := ⟨_, rfl⟩
  rw [← hW3] at AN HD HB ⊢
  clear hW3 AD
  obtain ⟨N, HN⟩ : ∃ N, Hid (N = nm10 (sd s)) := ⟨_, rfl⟩
  rw [← HN.out] at AN
  have hNn : Bn 32 N := by rw [HN.out]; exact nm10_bn (sd_byt s)
  have hR : W3.rangeAt gb 0 (List.map (Value.int .u8) N) := AN.out.rng
  obtain ⟨hlen', hone, hi⟩ := bn32_cells hNn
  obtain ⟨cs, hcs⟩ : ∃ cs, cs = (List.map (Value.int .u8) N) := ⟨_, rfl⟩
  have HCS : Hid (cs = (List.map (Value.int .u8) N)) := hcs
  rw [← hcs] at hlen' hone hi hR
  clear hcs
  have hth := HD.out
  go_wp2_with (first
   | (refine wpList_load_mid rfl 30 (.tmp 3) rfl gb 0 rfl cs _ hR Tryz.underlying30 rfl hi ?_)
   | (refine wpList_store_mid rfl 30 (.tmp 2) (.tmp 14) rfl q2 0 cs.toArray rfl rfl (by simpa [hlen'] using hth) (by simpa using hi) (all_oneCell_toArray hone) ?_))
  have HR2 : Hid ((W3.setCells q2 0 cs).rangeAt q2 0 cs) := World.rangeAt_setCells_same _ _ _ _ (by rw [hlen']; exact hth)
  have hld := run_loadVar_mid (P := Tryz.prog) _ _ 0 30 _ _ HR2.out Tryz.underlying30 rfl hi
  exact bodyPost_ret (v := .agg cs.toArray) (by simp [results, Tryz.results82]; exact hld) rfl ⟨N, by rw [HCS.out], HN, below_setCells _ (by have := HQ.out; omega) _ _ _ HB.out⟩
/-- A State that is written out: its hash and its chain key. -/
theorem build_symm {l0 : List Int} (h0 : l0.length = 32) (w : World) : Sem.run Tryz.prog (Instr.build 66 #[(1, .agg (List.map (Value.int .u8) l0).toArray), (2, .agg (List.map (Value.int .u8) l0).toArray)]) w = .ok (.agg (nc10 l0).toArray) w := by
 obtain ⟨a0, l1, rfl, h1⟩ := cons_of h0
 obtain ⟨a1, l2, rfl, h2⟩ := cons_of h1
 obtain ⟨a2, l3, rfl, h3⟩ := cons_of h2
 obtain ⟨a3, l4, rfl, h4⟩ := cons_of h3
 obtain ⟨a4, l5, rfl, h5⟩ := cons_of h4
 obtain ⟨a5, l6, rfl, h6⟩ := cons_of h5
 obtain ⟨a6, l7, rfl, h7⟩ := cons_of h6
 obtain ⟨a7, l8, rfl, h8⟩ := cons_of h7
 obtain ⟨a8, l9, rfl, h9⟩ := cons_of h8
 obtain ⟨a9, l10, rfl, h10⟩ := cons_of h9
 obtain ⟨a10, l11, rfl, h11⟩ := cons_of h10
 obtain ⟨a11, l12, rfl, h12⟩ := cons_of h11
 obtain ⟨a12, l13, rfl, h13⟩ := cons_of h12
 obtain ⟨a13, l14, rfl, h14⟩ := cons_of h13
 obtain ⟨a14, l15, rfl, h15⟩ := cons_of h14
 obtain ⟨a15, l16, rfl, h16⟩ := cons_of h15
 obtain ⟨a16, l17, rfl, h17⟩ := cons_of h16
 obtain ⟨a17, l18, rfl, h18⟩ := cons_of h17
 obtain ⟨a18, l19, rfl, h19⟩ := cons_of h18
 obtain ⟨a19, l20, rfl, h20⟩ := cons_of h19
 obtain ⟨a20, l21, rfl, h21⟩ := cons_of h20
 obtain ⟨a21, l22, rfl, h22⟩ := cons_of h21
 obtain ⟨a22, l23, rfl, h23⟩ := cons_of h22
 obtain ⟨a23, l24, rfl, h24⟩ := cons_of h23
 obtain ⟨a24, l25, rfl, h25⟩ := cons_of h24
 obtain ⟨a25, l26, rfl, h26⟩ := cons_of h25
 obtain ⟨a26, l27, rfl, h27⟩ := cons_of h26
 obtain ⟨a27, l28, rfl, h28⟩ := cons_of h27
 obtain ⟨a28, l29, rfl, h29⟩ := cons_of h28
 obtain ⟨a29, l30, rfl, h30⟩ := cons_of h29
 obtain ⟨a30, l31, rfl, h31⟩ := cons_of h30
 obtain ⟨a31, l32, rfl, h32⟩ := cons_of h31
 obtain rfl := List.eq_nil_of_length_eq_zero h32
 kernel_rfl
theorem wpList_build_two {ops : Array Oper} {rest : List Oper} {o : Oper} {a : Act} {w : World} {Q : Exit → Act → World → Prop} (hgd : o.guard = none) {t : TypeId} {i j : Nat} {p q : Operand} (ho : o.op = Op.build t #[(i, p), (j, q)]) (x y v : Value) (hx : a.eval p = x) (hy : a.eval q = y)
  (hr : Sem.run Tryz.prog (Instr.build t #[(i, x), (j, y)]) w = .ok v w) (h : wpList Tryz.prog ops Q rest (a.put o.dst v) w) : wpList Tryz.prog ops Q (o :: rest) a w := by
 refine wpList_plain hgd fun K hK => ?_
 have e : (execOp a.eval o).run Tryz.prog w = .ok (.value v) w := by
  unfold execOp
  rw [ho]
  have e1 : Array.map (fun x : Nat × Operand => match x with | (i, x) => (i, a.eval x)) #[(i, p), (j, q)] = #[(i, x), (j, y)] := by
   rw [← hx, ← hy]
   simp
  show Sem.run Tryz.prog (do let r ← Instr.build t (Array.map (fun x : Nat × Operand => match x with | (i, x) => (i, a.eval x)) #[(i, p), (j, q)]); pure (Next.value r)) w = _
  rw [e1, Sem.run_bind, hr]
  rfl
 unfold Oper.wp
 rw [e]
 exact hK _ _ h
set_option maxHeartbeats 4000000 in
theorem new10_c (s : ByteArray) (w : World) (hg : Gb w) (hs : s.size ≤ 4611686018427387904) :
  Calls Tryz.prog 52 #[.string s] w fun e w' => ∃ b N, e = .returned (.pointer (some ⟨b, 0, none⟩)) ∧ w.heap.size ≤ b ∧ Hid (N = nm10 (sd s)) ∧ Hid (My w' b z9l false 0 N N) ∧ Below w.heap.size w w' := by
 have HG : Hid (Gb w) := hg
 clear hg
 go_enter Tryz.func52, Tryz.ntmps52
 go_wp2_with fail
 refine (namehash_c s _ HG.out hs).mono ?_
 rintro e V ⟨N, rfl, HN, hb⟩
 have hNn : Hid (Bn 32 N) := by unfold Hid; rw [HN.out]; exact nm10_bn (sd_byt s)
 have HB : Hid (Below w.heap.size w V) := hb
 clear hb HG
 obtain ⟨hlenbh, honebh, hibh⟩ := bn32_cells hNn.out
 obtain ⟨csbh, hcs⟩ : ∃ cs, cs = (List.map (Value.int .u8) N) := ⟨_, rfl⟩
 rw [← hcs] at hlenbh honebh hibh ⊢
 have HCbh : Hid (csbh = (List.map (Value.int .u8) N)) := hcs
 clear hcs
 have hth := there_new V 32 zb32 rfl 30
 have Abh : Hid (Ar ((V.alloc (.cells zb32 30)).setCells V.heap.size 0 csbh) V.heap.size 32 (List.map (Value.int .u8) N)) := by rw [← HCbh.out]; exact ar_var _ _ 32 rfl _ _ hlenbh
 have hX : Below V.heap.size V ((V.alloc (.cells zb32 30)).setCells V.heap.size 0 csbh) := bel_var _ _ _ _
 go_upto_region 2 with (refine wpList_store_mid rfl 30 (.tmp 3) (.tmp 5) rfl V.heap.size 0 csbh.toArray rfl rfl (by simpa [hlenbh] using hth) (by simpa using hibh) (all_oneCell_toArray honebh) ?_)
 clear hth honebh hlenbh
 obtain ⟨W1, hnew⟩ : ∃ W, W = ((V.alloc (.cells zb32 30)).setCells V.heap.size 0 csbh) := ⟨_, rfl⟩
 obtain ⟨bh, hblk⟩ : ∃ q, q = V.heap.size := ⟨_, rfl⟩
 rw [← hnew] at Abh hX ⊢
 rw [← hblk] at Abh ⊢
 rw [HCbh.out] at hibh
 clear hnew HCbh
 have kw : w.heap.size ≤ W1.heap.size := by have h1 := HB.out.size; have h2 := hX.size; omega
 replace HB := hidp (HB.out.trans (hX.mono HB.out.size))
 clear hX hblk
 have hb9 := build_symm hNn.out.len W1
 have hR := Abh.out.rng
 obtain ⟨ds, hds⟩ : ∃ ds, ds = (nc10 N) := ⟨_, rfl⟩
 have HDS : Hid (ds = (nc10 N)) := hds
 rw [← hds] at hb9
 clear hds
 go_wp2_with (first
  | (refine wpList_load_mid rfl 30 (.tmp 3) rfl bh 0 rfl (List.map (Value.int .u8) N) _ hR Tryz.underlying30 rfl hibh ?_)
  | (refine wpList_build_two rfl rfl (.agg (List.map (Value.int .u8) N).toArray) (.agg (List.map (Value.int .u8) N).toArray) (.agg ds.toArray) rfl rfl hb9 ?_))
 go_ret
 exact ⟨W1.heap.size, N, rfl, kw, HN, by unfold Hid; rw [HDS.out]; exact my_new W1 N hNn.out _, HB.out.trans ((bel1 W1 _).mono HB.out.size)⟩
end Go.Proofs.YtlnbjehimabaiaaGreatDoor
/-
 What a State's Init, Has, Nonce, SetNonce, Key, Copy do where it is embedded. No statement of the seat is proved here.
-/
namespace Go.Proofs.YtlnbjehimabaiaaGreatDoor
open Go.RowKit
set_option maxRecDepth 8000

theorem has9_o (b o : Nat) (k : List Int) (h : Bool) (n : Int) (w : World) (hs : Sy w b o k h n) :
  Calls Tryz.prog 157 #[.pointer (some ⟨b, o, none⟩)] w fun e w' => e = .returned (.bool h) ∧ w' = w := by
 obtain ⟨ch, -⟩ := hs.has
 go_enter Tryz.func157, Tryz.ntmps157
 go_wp2
 go_ret
 exact ⟨rfl, rfl⟩
theorem key9_o (b o : Nat) (k : List Int) (h : Bool) (n : Int) (w : World) (hs : Sy w b o k h n) :
  Calls Tryz.prog 26 #[.pointer (some ⟨b, o, none⟩)] w fun e w' => e = .returned (.agg (List.map (Value.int .u8) k).toArray) ∧ Below w.heap.size w w' := by
 have HS : Hid (Sy w b o k h n) := hs
 clear hs
 go_enter Tryz.func26, Tryz.ntmps26
 go_upto_region 1 with fail
 have HD : Hid ((w.alloc (.cells zb32 30)).there w.heap.size 0 32) := by unfold Hid; exact there_new _ 32 _ rfl _
 have HB : Hid (Below w.heap.size w (w.alloc (.cells zb32 30))) := bel1 _ _
 obtain ⟨W0, hW0⟩ : ∃ W, W = (w.alloc (.cells zb32 30)) := ⟨_, rfl⟩
 obtain ⟨q2, hq2⟩ : ∃ q, q = w.heap.size := ⟨_, rfl⟩
 rw [← hW0] at HD HB ⊢
 have HQ : Hid (q2 = w.heap.size) := hq2
 rw [← hq2] at HD ⊢
 clear hW0 hq2
 replace HS := hidp (HS.out.later HB.out)
 obtain ⟨hlen', hone, hi⟩ := bn32_cells HS.out.bk
 have hR := HS.out.key
 obtain ⟨cs, hcs⟩ : ∃ cs, cs = (List.map (Value.int .u8) k) := ⟨_, rfl⟩
 have HC : Hid (cs = (List.map (Value.int .u8) k)) := hcs
 rw [← hcs] at hlen' hone hi hR
 clear hcs
 have hth := HD.out
 go_wp2_with (first
  | (refine wpList_load_mid rfl 30 (.tmp 5) rfl b o rfl cs _ hR Tryz.underlying30 rfl hi ?_)
  | (refine wpList_store_mid rfl 30 (.tmp 2) (.tmp 6) rfl q2 0 cs.toArray rfl rfl (by simpa [hlen'] using hth) (by simpa using hi) (all_oneCell_toArray hone) ?_))
 have HR2 : Hid ((W0.setCells q2 0 cs).rangeAt q2 0 cs) := World.rangeAt_setCells_same _ _ _ _ (by rw [hlen']; exact hth)
 have hld := run_loadVar_mid (P := Tryz.prog) _ _ 0 30 _ _ HR2.out Tryz.underlying30 rfl hi
 exact bodyPost_ret (v := .agg cs.toArray) (by simp [results, Tryz.results26]; exact hld) rfl ⟨by rw [HC.out], below_setCells _ (by have := HQ.out; omega) _ _ _ HB.out⟩

set_option maxHeartbeats 2000000 in
theorem init9_o (b o : Nat) (k : List Int) (h : Bool) (n : Int) (key : List Int) (hk : Bn 32 key) (w : World) (hs : Sy w b o k h n) :
  Calls Tryz.prog 118 #[.pointer (some ⟨b, o, none⟩), (.agg (List.map (Value.int .u8) key).toArray)] w fun e w' => e = .returned (.tuple #[]) ∧ Hid (Sy w' b o key true 0) ∧ ExtR b o 34 w w' := by
 have HS : Hid (Sy w b o k h n) := hs
 have HK : Hid (Bn 32 key) := hk
 clear hs hk
 go_enter Tryz.func118, Tryz.ntmps118
 go_upto_region 1 with fail
 have AK : Hid (Ar (w.alloc (.cells (List.map (Value.int .u8) key).toArray 30)) w.heap.size 32 (List.map (Value.int .u8) key)) := ar_box w _ 32 HK.out.map_len _
 have HB : Hid (Below w.heap.size w (w.alloc (.cells (List.map (Value.int .u8) key).toArray 30))) := bel1 _ _
 have HE : Hid (ExtR b o 34 w (w.alloc (.cells (List.map (Value.int .u8) key).toArray 30))) := ExtR.of (bel1 _ _) HS.out.lt
 obtain ⟨W0, hW0⟩ : ∃ W, W = (w.alloc (.cells (List.map (Value.int .u8) key).toArray 30)) := ⟨_, rfl⟩
 obtain ⟨q3, hq3⟩ : ∃ q, q = w.heap.size := ⟨_, rfl⟩
 rw [← hW0] at AK HB HE ⊢
 rw [← hq3] at AK ⊢
 clear hW0 hq3
 replace HS := hidp (HS.out.later HB.out)
 obtain ⟨_, _, hi⟩ := bn32_cells HK.out
 obtain ⟨hlen', hone, hic⟩ := sc9_cells true 0 HK.out
 have hb9 := build_init HK.out.len W0
 have hth := HS.out.ao.all
 obtain ⟨cs, hcs⟩ : ∃ cs, cs = (sc9 key true 0) := ⟨_, rfl⟩
 have HC : Hid (cs = (sc9 key true 0)) := hcs
 rw [← hcs] at hlen' hone hic hb9
 clear hcs
 go_wp2_with (first
  | (refine wpList_load_mid rfl 30 (.tmp 3) rfl q3 0 rfl (List.map (Value.int .u8) key) _ AK.out.rng Tryz.underlying30 rfl hi ?_)
  | (refine wpList_build9 rfl rfl (.agg (List.map (Value.int .u8) key).toArray) (.agg cs.toArray) rfl hb9 ?_)
  | (refine wpList_store_mid rfl 64 (.tmp 7) (.tmp 6) rfl b o cs.toArray rfl rfl (by simpa [hlen'] using hth) (by simpa using hic) (all_oneCell_toArray hone) ?_))
 go_end0
 exact ⟨rfl, by rw [HC.out]; exact HS.out.setAll HK.out true (by decide), ExtR.cells _ o HE.out (Nat.le_refl _) (by first | omega | (have := hKn.map_len; omega))⟩
end Go.Proofs.YtlnbjehimabaiaaGreatDoor
/-
 What a State's Hash, HasKey and MixHash do, wherever it is embedded at a block's begin. No statement of the seat is proved here.
-/
namespace Go.Proofs.YtlnbjehimabaiaaGreatDoor
open Go.RowKit
set_option maxRecDepth 8000

set_option maxHeartbeats 2000000 in
theorem hash10_c (b : Nat) (k : List Int) (h : Bool) (n : Int) (H C : List Int) (w : World) (hs : My w b k h n H C) :
  Calls Tryz.prog 36 #[.pointer (some ⟨b, 0, none⟩)] w fun e w' => e = .returned (.agg (List.map (Value.int .u8) H).toArray) ∧ Below w.heap.size w w' := by
 have HS : Hid (My w b k h n H C) := hs
 clear hs
 go_enter Tryz.func36, Tryz.ntmps36
 go_upto_region 1 with fail
 have HD : Hid ((w.alloc (.cells zb32 30)).there w.heap.size 0 32) := by unfold Hid; exact there_new _ 32 _ rfl _
 have HB : Hid (Below w.heap.size w (w.alloc (.cells zb32 30))) := bel1 _ _
 obtain ⟨W0, hW0⟩ : ∃ W, W = (w.alloc (.cells zb32 30)) := ⟨_, rfl⟩
 obtain ⟨q2, hq2⟩ : ∃ q, q = w.heap.size := ⟨_, rfl⟩
 rw [← hW0] at HD HB ⊢
 have HQ : Hid (q2 = w.heap.size) := hq2
 rw [← hq2] at HD ⊢
 have k1 : q2 < W0.heap.size := there_lt HD.out (by decide)
 clear hW0 hq2
 replace HS := hidp (HS.out.later HB.out)
 have hR := HS.out.ho.rng
 obtain ⟨hlen', hone, hi⟩ := bn32_cells HS.out.bh
 obtain ⟨cs, hcs⟩ : ∃ cs, cs = (List.map (Value.int .u8) H) := ⟨_, rfl⟩
 have HCS : Hid (cs = (List.map (Value.int .u8) H)) := hcs
 rw [← hcs] at hlen' hone hi hR
 clear hcs
 have hth := HD.out
 go_wp2_with (first
  | (refine wpList_load_mid rfl 30 (.tmp 5) rfl b 34 rfl cs _ hR Tryz.underlying30 rfl hi ?_)
  | (refine wpList_store_mid rfl 30 (.tmp 2) (.tmp 6) rfl q2 0 cs.toArray rfl rfl (by simpa [hlen'] using hth) (by simpa using hi) (all_oneCell_toArray hone) ?_))
 have HR2 : Hid ((W0.setCells q2 0 cs).rangeAt q2 0 cs) := World.rangeAt_setCells_same _ _ _ _ (by rw [hlen']; exact hth)
 have hld := run_loadVar_mid (P := Tryz.prog) _ _ 0 30 _ _ HR2.out Tryz.underlying30 rfl hi
 exact bodyPost_ret (v := .agg cs.toArray) (by simp [results, Tryz.results36]; exact hld) rfl ⟨by rw [HCS.out], below_setCells _ (by have := HQ.out; omega) _ _ _ HB.out⟩
theorem haskey10_c (b : Nat) (k : List Int) (h : Bool) (n : Int) (H C : List Int) (w : World) (hs : My w b k h n H C) :
  Calls Tryz.prog 131 #[.pointer (some ⟨b, 0, none⟩)] w fun e w' => e = .returned (.bool h) ∧ w' = w := by
 go_enter Tryz.func131, Tryz.ntmps131
 go_wp2_with fail
 refine (has9_o b 0 k h n _ hs.sy).mono ?_
 rintro e V ⟨rfl, hw⟩
 rw [hw]
 clear hw V
 go_wp2
 go_ret
 exact ⟨rfl, rfl⟩
set_option maxHeartbeats 4000000 in
theorem mixhash10_c (b : Nat) (k : List Int) (h : Bool) (n : Int) (H C : List Int) (a : Option Addr) (len cap : Nat) (x : List Int) (w : World) (hs : My w b k h n H C) (hr : Rd w a len cap x) (hg : Gb w) (hm : len ≤ 281474976710656) :
  Calls Tryz.prog 53 #[.pointer (some ⟨b, 0, none⟩), .slice a len cap] w fun e w' => e = .returned (.tuple #[]) ∧ Hid (My w' b k h n (sum7 (H ++ x)) C) ∧ ExtR b 0 98 w w' := by
 have HS : Hid (My w b k h n H C) := hs
 have HG : Hid (Gb w) := hg
 have HL : Hid (x.length = len) := hr.hlen
 have HHL : Hid (H.length = 32) := hs.bh.len
 have hb1 := bel1 w (.cells #[.slice (some ⟨b, 34, none⟩) 32 32, .slice a len cap] 25)
 have Y1 : Hid (RdL (w.alloc (.cells #[.slice (some ⟨b, 34, none⟩) 32 32, .slice a len cap] 25)) (some ⟨w.heap.size, 0, none⟩) 2 [H, x]) := RdL.two w _ 32 32 H _ len cap x 25 hs.rdH hr
 have hlt := hs.lt
 clear hs hr hg
 go_enter Tryz.func53, Tryz.ntmps53
 go_wp2_with fail
 refine (sum_c (some ⟨w.heap.size, 0, none⟩) 2 2 [H, x] _ Y1.out (HG.out.later hb1) (by decide) (by simp only [List.flatten_cons, List.flatten_nil, List.append_nil, List.length_append]; rw [HL.out, HHL.out]; omega)).mono ?_
 rintro e V ⟨S, rfl, HS1, hb⟩
 replace HS1 : Hid (S = sum7 (H ++ x)) := by have := HS1.out; rwa [List.flatten_cons, List.flatten_cons, List.flatten_nil, List.append_nil] at this
 have hSn : Bn 32 S := by rw [HS1.out]; exact sum7_bn _
 have hb2 : Below w.heap.size w V := hb1.trans (hb.mono hb1.size)
 replace HS := hidp (HS.out.later hb2)
 have HE : Hid (ExtR b 0 98 w V) := ExtR.of hb2 hlt
 clear hb hb1 hb2 Y1 HG HL HHL
 have hth := HS.out.ho.all
 obtain ⟨hlen', hone, hi⟩ := bn32_cells hSn
 obtain ⟨cs, hcs⟩ : ∃ cs, cs = (List.map (Value.int .u8) S) := ⟨_, rfl⟩
 have HCS : Hid (cs = (List.map (Value.int .u8) S)) := hcs
 rw [← hcs] at hlen' hone hi ⊢
 clear hcs
 go_wp2_with (refine wpList_store_mid rfl 30 (.tmp 13) (.tmp 11) rfl b 34 cs.toArray rfl rfl (by simpa [hlen'] using hth) (by simpa using hi) (all_oneCell_toArray hone) ?_)
 go_end0
 exact ⟨rfl, by unfold Hid; rw [HCS.out, ← HS1.out]; exact HS.out.setH hSn, ExtR.cells _ _ HE.out (by decide) (by rw [hlen']; decide)⟩
end Go.Proofs.YtlnbjehimabaiaaGreatDoor
