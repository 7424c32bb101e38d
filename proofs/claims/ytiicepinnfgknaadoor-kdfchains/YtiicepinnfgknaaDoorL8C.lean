/-
  KdfChains' walk. No statement of the seat is proved here.
-/
import Derived.Test.YtiicepinnfgknaaDoorEKn
namespace Go.Proofs.YtiicepinnfgknaaDoor
open Go.RowKit

theorem rd_range {u : World} {g off : Nat} {l : List Int} (h : u.rangeAt g off (List.map (Value.int .u8) l)) (hb : Bn 32 l) : Rd u (some ⟨g, off, none⟩) 32 32 l :=
  ⟨hb.len, Nat.le_refl _, (fun e => by cases e), hb.byt, fun _ => ⟨g, off, rfl, fun j hj => by
    have hj2 : j < l.length := by rw [hb.len]; exact hj
    exact h j _ (by rw [List.getElem?_map, List.getElem?_eq_getElem hj2]; rfl)⟩⟩
theorem owns_apart {u v : World} {base g n c b : Nat} {xs : List Value} (h : u.ownsRow base 5 1 (.slice (some ⟨g, 0, none⟩) n c) n xs) (hb : ExtB b u v) (hne : g ≠ b) : v.ownsRow base 5 1 (.slice (some ⟨g, 0, none⟩) n c) n xs :=
  h.kept (w' := v) (row := some b) ⟨hb.os, hb.tape, hb.output, hb.size, fun k hk hne2 => hb.block k hk (fun e => hne2 (by simp [e]))⟩ (.inr (by simp [Value.ownBlock]; first | exact fun e => hne e | exact fun e => hne e.symm))
theorem step_append_want {P : Program} {ops : Array Oper} {o : Oper} {a : Act} {w : World} {K : Act → World → Prop} {Q : Exit → Act → World → Prop} {E : Prop} (hw : Region.wanted o (yielded ops a.tmps) = true) (s x : Operand) (t : TypeId)
    (ho : o.op = .call { callee := .builtin .append, args := #[s, x], argTypes := #[t, t] }) (v1 v2 : Value) (hs : a.eval s = v1) (hx : a.eval x = v2) (v : Value) (w' : World)
    (hr : (Builtin.append_ #[t, t] o.type #[v1, v2]).run P w = .ok v w') (h : K (a.put o.dst v) w') : if Region.wanted o (yielded ops a.tmps) = true then Oper.wp P o a w K Q else E := by
  rw [if_pos hw]
  unfold Oper.wp execOp
  simp only [ho, resolve, invoke, builtin, Sem.run_bind, Sem.run_pure, Result.andThen_ok, List.map_toArray, List.map_cons, List.map_nil, hs, hx, hr]
  exact h
set_option maxRecDepth 8000 in
set_option maxHeartbeats 8000000 in
theorem kdfChains_walk (chain : List Int) (a : Option Addr) (len cap : Nat) (input : List Int) (hc : Bn 32 chain) (hlen : len ≤ 140737488351232) (w : World) (hr : Rd w a len cap input) (hg : Gb w ∧ Gq w) :
    Calls Tryd.prog 6 #[(.agg (List.map (Value.int .u8) chain).toArray), .slice a len cap] w fun e w' => e = .returned (.bool true) ∧ Below w.heap.size w w' := by
  have HR : Hid (Rd w a len cap input) := hr
  have HG : Hid (Gb w) := hg.1
  have HQ : Hid (Gq w) := hg.2
  have HC : Hid (Bn 32 chain) := hc
  clear hr hg hc
  obtain ⟨_, _, hic⟩ := bn32_cells HC.out
  go_enter Tryd.func6, Tryd.ntmps6
  go_upto_region 1 with fail
  have AC : Hid (Ar (w.alloc (.cells (List.map (Value.int .u8) chain).toArray 25)) w.heap.size 32 (List.map (Value.int .u8) chain)) := ar_box w _ 32 HC.out.map_len _
  have HB : Hid (Below w.heap.size w (w.alloc (.cells (List.map (Value.int .u8) chain).toArray 25))) := bel1 _ _
  obtain ⟨W0, hW0⟩ : ∃ W, W = (w.alloc (.cells (List.map (Value.int .u8) chain).toArray 25)) := ⟨_, rfl⟩
  obtain ⟨bc, hbc⟩ : ∃ q, q = w.heap.size := ⟨_, rfl⟩
  rw [← hW0] at AC HB ⊢
  rw [← hbc] at AC ⊢
  clear hW0 hbc
  replace HR : Hid (Rd W0 a len cap input) := HR.out.below HB.out
  go_wp2_with (refine wpList_load_mid rfl 25 (.tmp 2) rfl bc 0 rfl (List.map (Value.int .u8) chain) _ AC.out.rng Tryd.underlying25 rfl hic ?_)
  refine (derive3_l chain a len cap input HC.out _ HR.out (HG.out.later HB.out) (by omega)).mono ?_
  rintro e V1 ⟨g, A, B, C, rfl, HA, HBk, HCk, RA, RB, RC, hb⟩
  replace AC : Hid (Ar V1 bc 32 (List.map (Value.int .u8) chain)) := AC.out.later hb
  replace HR : Hid (Rd V1 a len cap input) := HR.out.below hb
  replace HB : Hid (Below w.heap.size w V1) := HB.out.trans (hb.mono HB.out.size)
  clear hb hic
  go_wp2_with fail
  refine (known8_any _ (HG.out.later HB.out) (HQ.out.later HB.out)).mono ?_
  rintro e V2 ⟨rfl, hb⟩
  replace AC : Hid (Ar V2 bc 32 (List.map (Value.int .u8) chain)) := AC.out.later hb
  replace HR : Hid (Rd V2 a len cap input) := HR.out.below hb
  replace RA : Hid (V2.rangeAt g 0 (List.map (Value.int .u8) A)) := range_later hb RA.out
  replace RB : Hid (V2.rangeAt g 32 (List.map (Value.int .u8) B)) := range_later hb RB.out
  replace RC : Hid (V2.rangeAt g 64 (List.map (Value.int .u8) C)) := range_later hb RC.out
  replace HB : Hid (Below w.heap.size w V2) := HB.out.trans (hb.mono HB.out.size)
  have HRC : Hid (Rd V2 (some ⟨bc, 0, none⟩) 32 32 chain) := AC.out.rd_all HC.out.byt 32 (by decide)
  clear hb HQ AC
  go_wp2_with fail
  refine (hmac_c (some ⟨bc, 0, none⟩) 32 32 chain a len cap input _ HRC.out HR.out (HG.out.later HB.out) (by decide) (by omega)).mono ?_
  rintro e V3 ⟨T, rfl, HT, hb⟩
  have HTN : Hid (Bn 32 T) := by unfold Hid; rw [HT.out]; exact hm8_bn _ _
  replace RA : Hid (V3.rangeAt g 0 (List.map (Value.int .u8) A)) := range_later hb RA.out
  replace RB : Hid (V3.rangeAt g 32 (List.map (Value.int .u8) B)) := range_later hb RB.out
  replace RC : Hid (V3.rangeAt g 64 (List.map (Value.int .u8) C)) := range_later hb RC.out
  replace HB : Hid (Below w.heap.size w V3) := HB.out.trans (hb.mono HB.out.size)
  clear hb HRC HR
  obtain ⟨hlenb6, honeb6, hib6⟩ := bn32_cells HTN.out
  obtain ⟨csb6, hcs⟩ : ∃ cs, cs = (List.map (Value.int .u8) T) := ⟨_, rfl⟩
  rw [← hcs] at hlenb6 honeb6 hib6 ⊢
  have HCb6 : Hid (csb6 = (List.map (Value.int .u8) T)) := hcs
  clear hcs
  have hth := there_new V3 32 #[.int .u8 0, .int .u8 0, .int .u8 0, .int .u8 0, .int .u8 0, .int .u8 0, .int .u8 0, .int .u8 0, .int .u8 0, .int .u8 0, .int .u8 0, .int .u8 0, .int .u8 0, .int .u8 0, .int .u8 0, .int .u8 0, .int .u8 0, .int .u8 0, .int .u8 0, .int .u8 0, .int .u8 0, .int .u8 0, .int .u8 0, .int .u8 0, .int .u8 0, .int .u8 0, .int .u8 0, .int .u8 0, .int .u8 0, .int .u8 0, .int .u8 0, .int .u8 0] rfl 25
  have Ab6 : Hid (Ar ((V3.alloc (.cells #[.int .u8 0, .int .u8 0, .int .u8 0, .int .u8 0, .int .u8 0, .int .u8 0, .int .u8 0, .int .u8 0, .int .u8 0, .int .u8 0, .int .u8 0, .int .u8 0, .int .u8 0, .int .u8 0, .int .u8 0, .int .u8 0, .int .u8 0, .int .u8 0, .int .u8 0, .int .u8 0, .int .u8 0, .int .u8 0, .int .u8 0, .int .u8 0, .int .u8 0, .int .u8 0, .int .u8 0, .int .u8 0, .int .u8 0, .int .u8 0, .int .u8 0, .int .u8 0] 25)).setCells V3.heap.size 0 csb6) V3.heap.size 32 (List.map (Value.int .u8) T)) := by rw [← HCb6.out]; exact ar_var _ _ 32 rfl _ _ hlenb6
  have hX : Below V3.heap.size V3 ((V3.alloc (.cells #[.int .u8 0, .int .u8 0, .int .u8 0, .int .u8 0, .int .u8 0, .int .u8 0, .int .u8 0, .int .u8 0, .int .u8 0, .int .u8 0, .int .u8 0, .int .u8 0, .int .u8 0, .int .u8 0, .int .u8 0, .int .u8 0, .int .u8 0, .int .u8 0, .int .u8 0, .int .u8 0, .int .u8 0, .int .u8 0, .int .u8 0, .int .u8 0, .int .u8 0, .int .u8 0, .int .u8 0, .int .u8 0, .int .u8 0, .int .u8 0, .int .u8 0, .int .u8 0] 25)).setCells V3.heap.size 0 csb6) := bel_var _ _ _ _
  go_upto_region 5 with (refine wpList_store_mid rfl 25 (.tmp 6) (.tmp 21) rfl V3.heap.size 0 csb6.toArray rfl rfl (by simpa [hlenb6] using hth) (by simpa using hib6) (all_oneCell_toArray honeb6) ?_)
  clear hth honeb6 hlenb6
  obtain ⟨W6, hnew⟩ : ∃ W, W = ((V3.alloc (.cells #[.int .u8 0, .int .u8 0, .int .u8 0, .int .u8 0, .int .u8 0, .int .u8 0, .int .u8 0, .int .u8 0, .int .u8 0, .int .u8 0, .int .u8 0, .int .u8 0, .int .u8 0, .int .u8 0, .int .u8 0, .int .u8 0, .int .u8 0, .int .u8 0, .int .u8 0, .int .u8 0, .int .u8 0, .int .u8 0, .int .u8 0, .int .u8 0, .int .u8 0, .int .u8 0, .int .u8 0, .int .u8 0, .int .u8 0, .int .u8 0, .int .u8 0, .int .u8 0] 25)).setCells V3.heap.size 0 csb6) := ⟨_, rfl⟩
  obtain ⟨b6, hblk⟩ : ∃ q, q = V3.heap.size := ⟨_, rfl⟩
  rw [← hnew] at Ab6 hX ⊢
  rw [← hblk] at Ab6 ⊢
  rw [HCb6.out] at hib6
  clear hnew HCb6
  replace RA : Hid (W6.rangeAt g 0 (List.map (Value.int .u8) A)) := range_later hX RA.out
  replace RB : Hid (W6.rangeAt g 32 (List.map (Value.int .u8) B)) := range_later hX RB.out
  replace RC : Hid (W6.rangeAt g 64 (List.map (Value.int .u8) C)) := range_later hX RC.out
  replace HB : Hid (Below w.heap.size w W6) := HB.out.trans (hX.mono HB.out.size)
  replace HG : Hid (Gb W6) := HG.out.later HB.out
  have HRT : Hid (Rd W6 (some ⟨b6, 0, none⟩) 32 32 T) := Ab6.out.rd_all HTN.out.byt 32 (by decide)
  have HnA : Hid (Bn 32 A) := by unfold Hid; rw [HA.out]; exact ky8_bn _ 0
  have HnB : Hid (Bn 32 B) := by unfold Hid; rw [HBk.out]; exact ky8_bn _ 1
  have HnC : Hid (Bn 32 C) := by unfold Hid; rw [HCk.out]; exact ky8_bn _ 2
  clear hX hblk hib6 Ab6
  have hb0 := bel1 W6 (.cells #[] 5)
  have OL : Hid ((W6.alloc (.cells #[] 5)).ownsRow W6.heap.size 5 1 (.slice (some ⟨W6.heap.size, 0, none⟩) 0 0) 0 (List.map (Value.int .u8) [])) := World.ownsRow_made W6 #[] 0 (Nat.le_refl _) (by decide) rfl
  have hrl : Hid (Rd (W6.alloc (.cells #[] 5)) (some ⟨g, 0, none⟩) 32 32 A) := rd_range (range_later hb0 RA.out) HnA.out
  go_wp2_with (at_builtin; refine wpList_app_at rfl (.tmp 22) (.tmp 25) rfl W6.heap.size _ 0 [] rfl OL.out (some ⟨g, 0, none⟩) 32 32 A rfl hrl.out (by decide) hb0.size ?_)
  intro v7 W7 hown hgr hwh
  obtain ⟨a7, c7, rfl⟩ := owns_sh hown
  obtain ⟨g7, rfl, hg7, hl7⟩ := owns_block hown (by decide)
  have hX : Below W6.heap.size W6 W7 := (extb_grown hgr).below hb0 (Nat.le_refl _)
  have O7 : Hid (W7.ownsRow W6.heap.size 5 1 (.slice (some ⟨g7, 0, none⟩) 32 c7) 32 (List.map (Value.int .u8) A)) := hown
  clear hown hgr hwh OL hrl hb0
  replace hX : Below W6.heap.size W6 W7 := hX
  have HE7 : Hid (Ext W6 W7) := hX
  have k7 : g7 < W7.heap.size := hl7
  clear hX hl7
  have RB7 : Hid (W7.rangeAt g 32 (List.map (Value.int .u8) B)) := range_later HE7.out RB.out
  have hb0 := bel1 W7 (.cells #[] 5)
  have OL : Hid ((W7.alloc (.cells #[] 5)).ownsRow W7.heap.size 5 1 (.slice (some ⟨W7.heap.size, 0, none⟩) 0 0) 0 (List.map (Value.int .u8) [])) := World.ownsRow_made W7 #[] 0 (Nat.le_refl _) (by decide) rfl
  have hrl : Hid (Rd (W7.alloc (.cells #[] 5)) (some ⟨g, 32, none⟩) 32 32 B) := rd_range (range_later hb0 RB7.out) HnB.out
  go_wp2_with (at_builtin; refine wpList_app_at rfl (.tmp 27) (.tmp 30) rfl W7.heap.size _ 0 [] rfl OL.out (some ⟨g, 32, none⟩) 32 32 B rfl hrl.out (by decide) hb0.size ?_)
  intro v8 W8 hown hgr hwh
  obtain ⟨a8, c8, rfl⟩ := owns_sh hown
  obtain ⟨g8, rfl, hg8, hl8⟩ := owns_block hown (by decide)
  have hX : Below W7.heap.size W7 W8 := (extb_grown hgr).below hb0 (Nat.le_refl _)
  have O8 : Hid (W8.ownsRow W7.heap.size 5 1 (.slice (some ⟨g8, 0, none⟩) 32 c8) 32 (List.map (Value.int .u8) B)) := hown
  clear hown hgr hwh OL hrl hb0
  have HE : Hid (Ext W6 W8) := Ext.trans HE7.out hX
  replace O7 : Hid (W8.ownsRow W6.heap.size 5 1 (.slice (some ⟨g7, 0, none⟩) 32 c7) 32 (List.map (Value.int .u8) A)) := owns_later O7.out hX
  have k8 : g7 ≠ g8 := by omega
  have hw7 : W6.heap.size ≤ g7 := hg7
  have hw8 : W6.heap.size ≤ g8 := by have := HE7.out.size; omega
  replace O8 : Hid (W8.ownsRow W6.heap.size 5 1 (.slice (some ⟨g8, 0, none⟩) 32 c8) 32 (List.map (Value.int .u8) B)) := by
    obtain ⟨h1, h2⟩ := O8.out
    refine ⟨h1, ?_⟩
    rcases h2 with h2 | ⟨q, cap', cur, hv, hq, r⟩
    · exact .inl h2
    · exact .inr ⟨q, cap', cur, hv, Nat.le_trans HE7.out.size hq, r⟩
  clear hX HE7 hg7 hg8 hl8 k7
  obtain ⟨_, _, hiA⟩ := bn32_cells HnA.out
  obtain ⟨_, _, hiB⟩ := bn32_cells HnB.out
  obtain ⟨_, _, hiC⟩ := bn32_cells HnC.out
  go_upto_region 7 with fail
  refine wp_region_noPanic ?_
  refine wp_region_held_drew (S := Ext W6) (by kernel_rfl) (Below.drew HE.out) (fun hH => ?_)
  change wpAnyH _ _ _ _ _ _ #[false, false, false, false, false, false, false, false, false, false, false, false, false, false, false, false, false, false, false, false, false, false, false, false, false, false, false, false, false, false] _ _
  refine wpAnyH_take (i := 0) (oi := ?o0r) (v := ?v0r) ?h0r (by kernel_rfl) ?f0r ?r0r (fun _ _ _ h => h) (Or.inl ⟨?w0r, ?y0r⟩) (by assumption) ?t0r
  case h0r => simp only [List.getElem?_toArray]; rfl
  case f0r => kernel_rfl
  case r0r => kernel_rfl
  case w0r => rfl
  case y0r => (intro u hu; (go_simp) <;> with_reducible rfl)
  try simp only [Act.put, List.setIfInBounds_toArray, List.set_cons_zero, List.set_cons_succ]
  refine wpAnyH_take (i := 1) (oi := ?o1r) (v := ?v1r) ?h1r (by kernel_rfl) ?f1r ?r1r (fun _ _ _ h => h) (Or.inl ⟨?w1r, ?y1r⟩) (by assumption) ?t1r
  case h1r => simp only [List.getElem?_toArray]; rfl
  case f1r => kernel_rfl
  case r1r => kernel_rfl
  case w1r => rfl
  case y1r => (intro u hu; (go_simp) <;> with_reducible rfl)
  try simp only [Act.put, List.setIfInBounds_toArray, List.set_cons_zero, List.set_cons_succ]
  refine wpAnyH_take (i := 2) (oi := ?o2r) (v := .agg (List.map (Value.int .u8) A).toArray) ?h2r (by kernel_rfl) ?f2r ?r2r (fun _ _ _ h => h) ?y2r (by assumption) ?t2r
  case h2r => simp only [List.getElem?_toArray]; rfl
  case f2r => kernel_rfl
  case r2r => kernel_rfl
  case y2r => exact yieldsIf_load_mid (by rfl) 25 (.tmp 33) rfl g 0 rfl (List.map (Value.int .u8) A) _ (fun u hu => range_later hu RA.out) Tryd.underlying25 rfl hiA
  try simp only [Act.put, List.setIfInBounds_toArray, List.set_cons_zero, List.set_cons_succ]
  refine wpAnyH_take (i := 3) (oi := ?o3r) (v := ?v3r) ?h3r (by kernel_rfl) ?f3r ?r3r (fun _ _ _ h => h) (Or.inl ⟨?w3r, ?y3r⟩) (by assumption) ?t3r
  case h3r => simp only [List.getElem?_toArray]; rfl
  case f3r => kernel_rfl
  case r3r => kernel_rfl
  case w3r => rfl
  case y3r => (intro u hu; (go_simp) <;> with_reducible rfl)
  try simp only [Act.put, List.setIfInBounds_toArray, List.set_cons_zero, List.set_cons_succ]
  obtain ⟨y0, hy0⟩ : ∃ V, V = W8.drew := ⟨_, rfl⟩
  have hyb : Below W8.heap.size W8 y0 := by rw [hy0]; exact (Below.refl _ _).drew
  replace O7 : Hid (y0.ownsRow W6.heap.size 5 1 (.slice (some ⟨g7, 0, none⟩) 32 c7) 32 (List.map (Value.int .u8) A)) := owns_later O7.out hyb
  replace O8 : Hid (y0.ownsRow W6.heap.size 5 1 (.slice (some ⟨g8, 0, none⟩) 32 c8) 32 (List.map (Value.int .u8) B)) := owns_later O8.out hyb
  rw [← hy0] at hH ⊢
  clear hy0 hyb
  refine wpAnyH_ready (rs := [4]) (by kernel_rfl) (by simp) ?_
  refine AllReadyH.cons (o := ?o4r) ?h4r (fun K hK => ?_) AllReadyH.nil
  case h4r => simp only [List.getElem?_toArray]; rfl
  go_simp
  have hb := bel1 y0 (.cells #[.int .u8 1] 5)
  have LX : Hid (Rd (y0.alloc (.cells #[.int .u8 1] 5)) (some ⟨y0.heap.size, 0, none⟩) 1 1 [1]) := rd_one y0 1 (by decide) 5
  refine hK.out _ _ (hH.trans hb) (fun hH' => ?_)
  clear hK K hH
  have hH := hH'
  clear hH'
  try simp only [List.setIfInBounds_toArray, List.set]
  obtain ⟨y1, hnew⟩ : ∃ v, v = (y0.alloc (.cells #[.int .u8 1] 5)) := ⟨_, rfl⟩
  obtain ⟨lx1, hbn⟩ : ∃ v, v = y0.heap.size := ⟨_, rfl⟩
  rw [← hnew] at hb hH LX ⊢
  rw [← hbn] at LX ⊢
  replace O7 : Hid (y1.ownsRow W6.heap.size 5 1 (.slice (some ⟨g7, 0, none⟩) 32 c7) 32 (List.map (Value.int .u8) A)) := owns_later O7.out hb
  replace O8 : Hid (y1.ownsRow W6.heap.size 5 1 (.slice (some ⟨g8, 0, none⟩) 32 c8) 32 (List.map (Value.int .u8) B)) := owns_later O8.out hb
  clear hb hnew hbn
  refine wpAnyH_ready (rs := [5]) (by kernel_rfl) (by simp) ?_
  refine AllReadyH.cons (o := ?o5r) ?h5r (fun K hK => ?_) AllReadyH.nil
  case h5r => simp only [List.getElem?_toArray]; rfl
  go_simp
  refine (hmac_c (some ⟨b6, 0, none⟩) 32 32 T (some ⟨lx1, 0, none⟩) 1 1 [1] _ (HRT.out.below hH) LX.out (HG.out.later hH) (by decide) (by decide)).mono ?_
  rintro e y2 ⟨S1, rfl, HS1, hb⟩
  refine hK.out _ _ (hH.trans hb) (fun hH' => ?_)
  clear hK K hH
  have hH := hH'
  clear hH'
  try simp only [List.setIfInBounds_toArray, List.set]
  replace O7 : Hid (y2.ownsRow W6.heap.size 5 1 (.slice (some ⟨g7, 0, none⟩) 32 c7) 32 (List.map (Value.int .u8) A)) := owns_later O7.out hb
  replace O8 : Hid (y2.ownsRow W6.heap.size 5 1 (.slice (some ⟨g8, 0, none⟩) 32 c8) 32 (List.map (Value.int .u8) B)) := owns_later O8.out hb
  clear hb LX
  have heq : ∀ u, Sem.run Tryd.prog (binOp .eql 25 (.agg (List.map (Value.int .u8) A).toArray) (.agg (List.map (Value.int .u8) S1).toArray)) u = .ok (.bool true) u := fun u => eql32 A S1 HnA.out (by rw [HA.out, HS1.out, HT.out]; rfl) u
  refine wpAnyH_take (i := 6) (oi := ?o6r) (v := ?v6r) ?h6r (by kernel_rfl) ?f6r ?r6r (fun _ _ _ h => h) (Or.inl ⟨?w6r, ?y6r⟩) (by assumption) ?t6r
  case h6r => simp only [List.getElem?_toArray]; rfl
  case f6r => kernel_rfl
  case r6r => kernel_rfl
  case w6r => rfl
  case y6r => (intro u hu; (go_simp) <;> with_reducible rfl)
  try simp only [Act.put, List.setIfInBounds_toArray, List.set_cons_zero, List.set_cons_succ]
  clear heq
  refine wpAnyH_take (i := 7) (oi := ?o7r) (v := ?v7r) ?h7r (by kernel_rfl) ?f7r ?r7r (fun _ _ _ h => h) (Or.inl ⟨?w7r, ?y7r⟩) (by assumption) ?t7r
  case h7r => simp only [List.getElem?_toArray]; rfl
  case f7r => kernel_rfl
  case r7r => kernel_rfl
  case w7r => rfl
  case y7r => (intro u hu; (go_simp) <;> with_reducible rfl)
  try simp only [Act.put, List.setIfInBounds_toArray, List.set_cons_zero, List.set_cons_succ]
  refine wpAnyH_take (i := 8) (oi := ?o8r) (v := ?v8r) ?h8r (by kernel_rfl) ?f8r ?r8r (fun _ _ _ h => h) (Or.inl ⟨?w8r, ?y8r⟩) (by assumption) ?t8r
  case h8r => simp only [List.getElem?_toArray]; rfl
  case f8r => kernel_rfl
  case r8r => kernel_rfl
  case w8r => rfl
  case y8r => (intro u hu; (go_simp) <;> with_reducible rfl)
  try simp only [Act.put, List.setIfInBounds_toArray, List.set_cons_zero, List.set_cons_succ]
  refine wpAnyH_take (i := 9) (oi := ?o9r) (v := ?v9r) ?h9r (by kernel_rfl) ?f9r ?r9r (fun _ _ _ h => h) (Or.inl ⟨?w9r, ?y9r⟩) (by assumption) ?t9r
  case h9r => simp only [List.getElem?_toArray]; rfl
  case f9r => kernel_rfl
  case r9r => kernel_rfl
  case w9r => rfl
  case y9r => (intro u hu; (go_simp) <;> with_reducible rfl)
  try simp only [Act.put, List.setIfInBounds_toArray, List.set_cons_zero, List.set_cons_succ]
  refine wpAnyH_take (i := 10) (oi := ?o10r) (v := .agg (List.map (Value.int .u8) B).toArray) ?h10r (by kernel_rfl) ?f10r ?r10r (fun _ _ _ h => h) ?y10r (by assumption) ?t10r
  case h10r => simp only [List.getElem?_toArray]; rfl
  case f10r => kernel_rfl
  case r10r => kernel_rfl
  case y10r => exact yieldsIf_load_mid (by rfl) 25 (.tmp 41) rfl g 32 rfl (List.map (Value.int .u8) B) _ (fun u hu => range_later hu RB.out) Tryd.underlying25 rfl hiB
  try simp only [Act.put, List.setIfInBounds_toArray, List.set_cons_zero, List.set_cons_succ]
  refine wpAnyH_take (i := 11) (oi := ?o11r) (v := ?v11r) ?h11r (by kernel_rfl) ?f11r ?r11r (fun _ _ _ h => h) (Or.inl ⟨?w11r, ?y11r⟩) (by assumption) ?t11r
  case h11r => simp only [List.getElem?_toArray]; rfl
  case f11r => kernel_rfl
  case r11r => kernel_rfl
  case w11r => rfl
  case y11r => (intro u hu; (go_simp) <;> with_reducible rfl)
  try simp only [Act.put, List.setIfInBounds_toArray, List.set_cons_zero, List.set_cons_succ]
  refine wpAnyH_take (i := 12) (oi := ?o12r) (v := ?v12r) ?h12r (by kernel_rfl) ?f12r ?r12r (fun _ _ _ h => h) (Or.inl ⟨?w12r, ?y12r⟩) (by assumption) ?t12r
  case h12r => simp only [List.getElem?_toArray]; rfl
  case f12r => kernel_rfl
  case r12r => kernel_rfl
  case w12r => rfl
  case y12r => (intro u hu; (go_simp) <;> with_reducible rfl)
  try simp only [Act.put, List.setIfInBounds_toArray, List.set_cons_zero, List.set_cons_succ]
  refine wpAnyH_ready (rs := [13]) (by kernel_rfl) (by simp) ?_
  refine AllReadyH.cons (o := ?o13r) ?h13r (fun K hK => ?_) AllReadyH.nil
  case h13r => simp only [List.getElem?_toArray]; rfl
  go_simp
  have hb := bel1 y2 (.cells #[.int .u8 2] 5)
  have LX : Hid (Rd (y2.alloc (.cells #[.int .u8 2] 5)) (some ⟨y2.heap.size, 0, none⟩) 1 1 [2]) := rd_one y2 2 (by decide) 5
  refine hK.out _ _ (hH.trans hb) (fun hH' => ?_)
  clear hK K hH
  have hH := hH'
  clear hH'
  try simp only [List.setIfInBounds_toArray, List.set]
  obtain ⟨y3, hnew⟩ : ∃ v, v = (y2.alloc (.cells #[.int .u8 2] 5)) := ⟨_, rfl⟩
  obtain ⟨lx2, hbn⟩ : ∃ v, v = y2.heap.size := ⟨_, rfl⟩
  rw [← hnew] at hb hH LX ⊢
  rw [← hbn] at LX ⊢
  replace O7 : Hid (y3.ownsRow W6.heap.size 5 1 (.slice (some ⟨g7, 0, none⟩) 32 c7) 32 (List.map (Value.int .u8) A)) := owns_later O7.out hb
  replace O8 : Hid (y3.ownsRow W6.heap.size 5 1 (.slice (some ⟨g8, 0, none⟩) 32 c8) 32 (List.map (Value.int .u8) B)) := owns_later O8.out hb
  clear hb hnew hbn
  obtain ⟨h7, d7, y4, hrun, hown, hE, -, -, -⟩ := app8 y3 W6.heap.size (.slice (some ⟨g7, 0, none⟩) 32 c7) 32 A (some ⟨lx2, 0, none⟩) 1 1 [2] O7.out LX.out (by decide) hH.size 27 g7 rfl (by decide)
  refine wpAnyH_ready (rs := [14]) (by kernel_rfl) (by simp) ?_
  refine AllReadyH.cons (o := ?oq14) ?hq14 (fun K hK => ?_) AllReadyH.nil
  case hq14 => simp only [List.getElem?_toArray]; rfl
  refine step_append_want (by kernel_rfl) (.tmp 44) (.tmp 45) 27 rfl _ _ rfl rfl _ _ hrun ?_
  refine hK.out _ _ (hE.below hH hw7) (fun hH' => ?_)
  clear hK K hH
  have hH := hH'
  clear hH'
  try simp only [List.setIfInBounds_toArray, List.set]
  replace O8 : Hid (y4.ownsRow W6.heap.size 5 1 (.slice (some ⟨g8, 0, none⟩) 32 c8) 32 (List.map (Value.int .u8) B)) := owns_apart O8.out hE (by omega)
  replace LX : Hid (Rd y4 (some ⟨h7, 0, none⟩) 33 d7 (A ++ [2])) := rd_own (HnA.out.byt.app (byt5 _ (by decide))) hown
  clear hrun hown hE O7
  try simp only [Act.put, List.setIfInBounds_toArray, List.set_cons_zero, List.set_cons_succ]
  try simp only [Nat.reduceAdd]
  refine wpAnyH_ready (rs := [15]) (by kernel_rfl) (by simp) ?_
  refine AllReadyH.cons (o := ?o15r) ?h15r (fun K hK => ?_) AllReadyH.nil
  case h15r => simp only [List.getElem?_toArray]; rfl
  go_simp
  refine (hmac_c (some ⟨b6, 0, none⟩) 32 32 T (some ⟨h7, 0, none⟩) 33 d7 (A ++ [2]) _ (HRT.out.below hH) LX.out (HG.out.later hH) (by decide) (by decide)).mono ?_
  rintro e y5 ⟨S2, rfl, HS2, hb⟩
  refine hK.out _ _ (hH.trans hb) (fun hH' => ?_)
  clear hK K hH
  have hH := hH'
  clear hH'
  try simp only [List.setIfInBounds_toArray, List.set]
  replace O8 : Hid (y5.ownsRow W6.heap.size 5 1 (.slice (some ⟨g8, 0, none⟩) 32 c8) 32 (List.map (Value.int .u8) B)) := owns_later O8.out hb
  clear hb LX
  have heq : ∀ u, Sem.run Tryd.prog (binOp .eql 25 (.agg (List.map (Value.int .u8) B).toArray) (.agg (List.map (Value.int .u8) S2).toArray)) u = .ok (.bool true) u := fun u => eql32 B S2 HnB.out (by rw [HBk.out, HS2.out, HA.out, HT.out]; rfl) u
  refine wpAnyH_take (i := 16) (oi := ?o16r) (v := ?v16r) ?h16r (by kernel_rfl) ?f16r ?r16r (fun _ _ _ h => h) (Or.inl ⟨?w16r, ?y16r⟩) (by assumption) ?t16r
  case h16r => simp only [List.getElem?_toArray]; rfl
  case f16r => kernel_rfl
  case r16r => kernel_rfl
  case w16r => rfl
  case y16r => (intro u hu; (go_simp) <;> with_reducible rfl)
  try simp only [Act.put, List.setIfInBounds_toArray, List.set_cons_zero, List.set_cons_succ]
  clear heq
  refine wpAnyH_take (i := 17) (oi := ?o17r) (v := ?v17r) ?h17r (by kernel_rfl) ?f17r ?r17r (fun _ _ _ h => h) (Or.inl ⟨?w17r, ?y17r⟩) (by assumption) ?t17r
  case h17r => simp only [List.getElem?_toArray]; rfl
  case f17r => kernel_rfl
  case r17r => kernel_rfl
  case w17r => rfl
  case y17r => (intro u hu; (go_simp) <;> with_reducible rfl)
  try simp only [Act.put, List.setIfInBounds_toArray, List.set_cons_zero, List.set_cons_succ]
  refine wpAnyH_take (i := 18) (oi := ?o18r) (v := ?v18r) ?h18r (by kernel_rfl) ?f18r ?r18r (fun _ _ _ h => h) (Or.inl ⟨?w18r, ?y18r⟩) (by assumption) ?t18r
  case h18r => simp only [List.getElem?_toArray]; rfl
  case f18r => kernel_rfl
  case r18r => kernel_rfl
  case w18r => rfl
  case y18r => (intro u hu; (go_simp) <;> with_reducible rfl)
  try simp only [Act.put, List.setIfInBounds_toArray, List.set_cons_zero, List.set_cons_succ]
  refine wpAnyH_take (i := 19) (oi := ?o19r) (v := ?v19r) ?h19r (by kernel_rfl) ?f19r ?r19r (fun _ _ _ h => h) (Or.inl ⟨?w19r, ?y19r⟩) (by assumption) ?t19r
  case h19r => simp only [List.getElem?_toArray]; rfl
  case f19r => kernel_rfl
  case r19r => kernel_rfl
  case w19r => rfl
  case y19r => (intro u hu; (go_simp) <;> with_reducible rfl)
  try simp only [Act.put, List.setIfInBounds_toArray, List.set_cons_zero, List.set_cons_succ]
  refine wpAnyH_take (i := 20) (oi := ?o20r) (v := ?v20r) ?h20r (by kernel_rfl) ?f20r ?r20r (fun _ _ _ h => h) (Or.inl ⟨?w20r, ?y20r⟩) (by assumption) ?t20r
  case h20r => simp only [List.getElem?_toArray]; rfl
  case f20r => kernel_rfl
  case r20r => kernel_rfl
  case w20r => rfl
  case y20r => (intro u hu; (go_simp) <;> with_reducible rfl)
  try simp only [Act.put, List.setIfInBounds_toArray, List.set_cons_zero, List.set_cons_succ]
  refine wpAnyH_take (i := 21) (oi := ?o21r) (v := .agg (List.map (Value.int .u8) C).toArray) ?h21r (by kernel_rfl) ?f21r ?r21r (fun _ _ _ h => h) ?y21r (by assumption) ?t21r
  case h21r => simp only [List.getElem?_toArray]; rfl
  case f21r => kernel_rfl
  case r21r => kernel_rfl
  case y21r => exact yieldsIf_load_mid (by rfl) 25 (.tmp 52) rfl g 64 rfl (List.map (Value.int .u8) C) _ (fun u hu => range_later hu RC.out) Tryd.underlying25 rfl hiC
  try simp only [Act.put, List.setIfInBounds_toArray, List.set_cons_zero, List.set_cons_succ]
  refine wpAnyH_take (i := 22) (oi := ?o22r) (v := ?v22r) ?h22r (by kernel_rfl) ?f22r ?r22r (fun _ _ _ h => h) (Or.inl ⟨?w22r, ?y22r⟩) (by assumption) ?t22r
  case h22r => simp only [List.getElem?_toArray]; rfl
  case f22r => kernel_rfl
  case r22r => kernel_rfl
  case w22r => rfl
  case y22r => (intro u hu; (go_simp) <;> with_reducible rfl)
  try simp only [Act.put, List.setIfInBounds_toArray, List.set_cons_zero, List.set_cons_succ]
  refine wpAnyH_take (i := 23) (oi := ?o23r) (v := ?v23r) ?h23r (by kernel_rfl) ?f23r ?r23r (fun _ _ _ h => h) (Or.inl ⟨?w23r, ?y23r⟩) (by assumption) ?t23r
  case h23r => simp only [List.getElem?_toArray]; rfl
  case f23r => kernel_rfl
  case r23r => kernel_rfl
  case w23r => rfl
  case y23r => (intro u hu; (go_simp) <;> with_reducible rfl)
  try simp only [Act.put, List.setIfInBounds_toArray, List.set_cons_zero, List.set_cons_succ]
  refine wpAnyH_ready (rs := [24]) (by kernel_rfl) (by simp) ?_
  refine AllReadyH.cons (o := ?o24r) ?h24r (fun K hK => ?_) AllReadyH.nil
  case h24r => simp only [List.getElem?_toArray]; rfl
  go_simp
  have hb := bel1 y5 (.cells #[.int .u8 3] 5)
  have LX : Hid (Rd (y5.alloc (.cells #[.int .u8 3] 5)) (some ⟨y5.heap.size, 0, none⟩) 1 1 [3]) := rd_one y5 3 (by decide) 5
  refine hK.out _ _ (hH.trans hb) (fun hH' => ?_)
  clear hK K hH
  have hH := hH'
  clear hH'
  try simp only [List.setIfInBounds_toArray, List.set]
  obtain ⟨y6, hnew⟩ : ∃ v, v = (y5.alloc (.cells #[.int .u8 3] 5)) := ⟨_, rfl⟩
  obtain ⟨lx3, hbn⟩ : ∃ v, v = y5.heap.size := ⟨_, rfl⟩
  rw [← hnew] at hb hH LX ⊢
  rw [← hbn] at LX ⊢
  replace O8 : Hid (y6.ownsRow W6.heap.size 5 1 (.slice (some ⟨g8, 0, none⟩) 32 c8) 32 (List.map (Value.int .u8) B)) := owns_later O8.out hb
  clear hb hnew hbn
  obtain ⟨h8, d8, y7, hrun, hown, hE, -, -, -⟩ := app8 y6 W6.heap.size (.slice (some ⟨g8, 0, none⟩) 32 c8) 32 B (some ⟨lx3, 0, none⟩) 1 1 [3] O8.out LX.out (by decide) hH.size 27 g8 rfl (by decide)
  refine wpAnyH_ready (rs := [25]) (by kernel_rfl) (by simp) ?_
  refine AllReadyH.cons (o := ?oq25) ?hq25 (fun K hK => ?_) AllReadyH.nil
  case hq25 => simp only [List.getElem?_toArray]; rfl
  refine step_append_want (by kernel_rfl) (.tmp 55) (.tmp 56) 27 rfl _ _ rfl rfl _ _ hrun ?_
  refine hK.out _ _ (hE.below hH hw8) (fun hH' => ?_)
  clear hK K hH
  have hH := hH'
  clear hH'
  try simp only [List.setIfInBounds_toArray, List.set]
  replace LX : Hid (Rd y7 (some ⟨h8, 0, none⟩) 33 d8 (B ++ [3])) := rd_own (HnB.out.byt.app (byt5 _ (by decide))) hown
  clear hrun hown hE O8
  try simp only [Act.put, List.setIfInBounds_toArray, List.set_cons_zero, List.set_cons_succ]
  try simp only [Nat.reduceAdd]
  refine wpAnyH_ready (rs := [26]) (by kernel_rfl) (by simp) ?_
  refine AllReadyH.cons (o := ?o26r) ?h26r (fun K hK => ?_) AllReadyH.nil
  case h26r => simp only [List.getElem?_toArray]; rfl
  go_simp
  refine (hmac_c (some ⟨b6, 0, none⟩) 32 32 T (some ⟨h8, 0, none⟩) 33 d8 (B ++ [3]) _ (HRT.out.below hH) LX.out (HG.out.later hH) (by decide) (by decide)).mono ?_
  rintro e y8 ⟨S3, rfl, HS3, hb⟩
  refine hK.out _ _ (hH.trans hb) (fun hH' => ?_)
  clear hK K hH
  have hH := hH'
  clear hH'
  try simp only [List.setIfInBounds_toArray, List.set]
  clear hb LX
  have heq : ∀ u, Sem.run Tryd.prog (binOp .eql 25 (.agg (List.map (Value.int .u8) C).toArray) (.agg (List.map (Value.int .u8) S3).toArray)) u = .ok (.bool true) u := fun u => eql32 C S3 HnC.out (by rw [HCk.out, HS3.out, HBk.out, HT.out]; rfl) u
  refine wpAnyH_take (i := 27) (oi := ?o27r) (v := ?v27r) ?h27r (by kernel_rfl) ?f27r ?r27r (fun _ _ _ h => h) (Or.inl ⟨?w27r, ?y27r⟩) (by assumption) ?t27r
  case h27r => simp only [List.getElem?_toArray]; rfl
  case f27r => kernel_rfl
  case r27r => kernel_rfl
  case w27r => rfl
  case y27r => (intro u hu; (go_simp) <;> with_reducible rfl)
  try simp only [Act.put, List.setIfInBounds_toArray, List.set_cons_zero, List.set_cons_succ]
  clear heq
  refine wpAnyH_take (i := 28) (oi := ?o28r) (v := ?v28r) ?h28r (by kernel_rfl) ?f28r ?r28r (fun _ _ _ h => h) (Or.inl ⟨?w28r, ?y28r⟩) (by assumption) ?t28r
  case h28r => simp only [List.getElem?_toArray]; rfl
  case f28r => kernel_rfl
  case r28r => kernel_rfl
  case w28r => rfl
  case y28r => (intro u hu; (go_simp) <;> with_reducible rfl)
  try simp only [Act.put, List.setIfInBounds_toArray, List.set_cons_zero, List.set_cons_succ]
  refine wpAnyH_take (i := 29) (oi := ?o29r) (v := ?v29r) ?h29r (by kernel_rfl) ?f29r ?r29r (fun _ _ _ h => h) (Or.inl ⟨?w29r, ?y29r⟩) (by assumption) ?t29r
  case h29r => simp only [List.getElem?_toArray]; rfl
  case f29r => kernel_rfl
  case r29r => kernel_rfl
  case w29r => rfl
  case y29r => (intro u hu; (go_simp) <;> with_reducible rfl)
  try simp only [Act.put, List.setIfInBounds_toArray, List.set_cons_zero, List.set_cons_succ]
  refine wpAnyH_done (by kernel_rfl) ?_ _
  refine NoPanic.normal ?_
  replace HB : Hid (Below w.heap.size w y8) := HB.out.trans (Below.mono hH HB.out.size)
  clear hH
  go_wp2
  go_ret
  exact ⟨rfl, HB.out⟩
end Go.Proofs.YtiicepinnfgknaaDoor
