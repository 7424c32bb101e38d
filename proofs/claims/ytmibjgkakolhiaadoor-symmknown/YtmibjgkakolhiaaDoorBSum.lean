/-
  What (*Hash).Sum and Sum do: BLAKE2s of what was written, of a list of bytes. No statement of the seat is proved here.
-/
import Derived.Test.YtmibjgkakolhiaaDoorBWr
import Derived.Test.YtmibjgkakolhiaaDoorKRow
namespace Go.Proofs.YtmibjgkakolhiaaDoor
open Go.RowKit

set_option maxRecDepth 8000 in
theorem hs_cells {st : List Int} {t : Int} {bl : List Int} {k : Nat} (h1 : Wn 8 st) (h2 : Bn 64 bl) : (hc7 st t bl k).length = 74 ∧ (∀ v ∈ hc7 st t bl k, v.oneCell' = true) ∧ (Tryd.prog.info? 89).map (·.size) = some (hc7 st t bl k).length := by
  have e := hc7_len (t := t) (k := k) h1.len h2.len
  refine ⟨e, fun v hv => ?_, by rw [e]; kernel_rfl⟩
  unfold hc7 at hv
  rcases List.mem_append.1 hv with hv | hv
  · obtain ⟨n, _, rfl⟩ := List.mem_map.1 hv; rfl
  · rcases List.mem_cons.1 hv with rfl | hv
    · rfl
    · rcases List.mem_append.1 hv with hv | hv
      · obtain ⟨n, _, rfl⟩ := List.mem_map.1 hv; rfl
      · rw [List.mem_singleton.1 hv]; rfl
def zc7 : List Value := hc7 z8w 0 z64w 0
set_option maxRecDepth 8000 in
theorem zero_hash (w : World) : Sem.run Tryd.prog (zeroValue 89) w = .ok (.agg zc7.toArray) w := by kernel_rfl
set_option maxRecDepth 8000 in
theorem put32_r (n : Int) (w : World) (h : W7 n) :
    Calls Tryd.prog 49 #[.int .u32 n] w fun e w' => ∃ g, e = .returned (.slice (some ⟨g, 0, none⟩) 4 4) ∧ Hid (Rd w' (some ⟨g, 0, none⟩) 4 4 (lay 4 n)) ∧ Below w.heap.size w w' := by
  refine (put32_any n w h.1 h.2).mono ?_
  rintro e w' ⟨rfl, hr, hb⟩
  exact ⟨_, rfl, hr, hb⟩
structure Mq (w : World) (q2 b4 : Nat) (O : List Int) (u : World) : Prop where
  rng : u.rangeAt b4 0 (List.map (Value.int .u8) O)
  out : u.there b4 0 32
  res : u.there q2 0 32
  bel : Below w.heap.size w u
set_option maxRecDepth 8000 in
theorem Mq.later {w : World} {q2 b4 : Nat} {O : List Int} {u v : World} (h : Mq w q2 b4 O u) (hb : Below u.heap.size u v) : Mq w q2 b4 O v := ⟨range_later hb h.rng, there_later hb h.out, there_later hb h.res, h.bel.trans (hb.mono h.bel.size)⟩
set_option maxRecDepth 8000 in
theorem Mq.more {w : World} {q2 b4 : Nat} {O : List Int} {u : World} (h : Mq w q2 b4 O u) (k : Nat) (hk : k < 8) (_hq : q2 ≠ b4) (hw : w.heap.size ≤ b4) (l : List Int) (hl : l.length = 4) (hO : O.length = 4 * k) : Mq w q2 b4 (O ++ l) (u.setCells b4 (4 * k) (List.map (Value.int .u8) l)) :=
  ⟨by rw [List.map_append]; exact range_more h.rng (by rw [List.length_map, hO]) 32 h.out (by rw [List.length_map, hl]; omega), World.there_setCells h.out _ _ _, World.there_setCells h.res _ _ _, below_setCells _ hw _ _ _ h.bel⟩

set_option maxRecDepth 8000 in
set_option maxHeartbeats 4000000 in
theorem sumh_c (b : Nat) (l : List Int) (w : World) (hx : Hx w b l) (hg : Gb w) (hlen : l.length ≤ 4611686018427387904) :
    Calls Tryd.prog 37 #[.pointer (some ⟨b, 0, none⟩)] w fun e w' => ∃ S, e = .returned (.agg (List.map (Value.int .u8) S).toArray) ∧ Hid (S = sum7 l) ∧ Below w.heap.size w w' := by
  have HX : Hid (Hx w b l) := hx
  have HG : Hid (Gb w) := hg
  have hbw := hx.lt
  have g0 := hg.ivlt
  have g1 := hg.sglt
  obtain ⟨hc, hhc⟩ : ∃ c, c = hc7 (hb7 l (kb7 l.length)) ((64 * kb7 l.length : Nat) : Int) (pad7 (l.drop (64 * kb7 l.length))) (l.length - 64 * kb7 l.length) := ⟨_, rfl⟩
  have HC : Hid (hc = hc7 (hb7 l (kb7 l.length)) ((64 * kb7 l.length : Nat) : Int) (pad7 (l.drop (64 * kb7 l.length))) (l.length - 64 * kb7 l.length)) := hhc
  obtain ⟨hlenc, honec, hic⟩ := hs_cells (t := ((64 * kb7 l.length : Nat) : Int)) (k := l.length - 64 * kb7 l.length) hx.h.wst hx.h.wbl
  rw [← hhc] at hlenc honec hic
  clear hx hg hhc
  go_enter Tryd.func37, Tryd.ntmps37
  go_upto_region 1 with fail
  have HD : Hid ((w.alloc (.cells #[.int .u8 0, .int .u8 0, .int .u8 0, .int .u8 0, .int .u8 0, .int .u8 0, .int .u8 0, .int .u8 0, .int .u8 0, .int .u8 0, .int .u8 0, .int .u8 0, .int .u8 0, .int .u8 0, .int .u8 0, .int .u8 0, .int .u8 0, .int .u8 0, .int .u8 0, .int .u8 0, .int .u8 0, .int .u8 0, .int .u8 0, .int .u8 0, .int .u8 0, .int .u8 0, .int .u8 0, .int .u8 0, .int .u8 0, .int .u8 0, .int .u8 0, .int .u8 0] 27)).there w.heap.size 0 32) := there_new _ 32 #[.int .u8 0, .int .u8 0, .int .u8 0, .int .u8 0, .int .u8 0, .int .u8 0, .int .u8 0, .int .u8 0, .int .u8 0, .int .u8 0, .int .u8 0, .int .u8 0, .int .u8 0, .int .u8 0, .int .u8 0, .int .u8 0, .int .u8 0, .int .u8 0, .int .u8 0, .int .u8 0, .int .u8 0, .int .u8 0, .int .u8 0, .int .u8 0, .int .u8 0, .int .u8 0, .int .u8 0, .int .u8 0, .int .u8 0, .int .u8 0, .int .u8 0, .int .u8 0] rfl 27
  have HB : Hid (Below w.heap.size w (w.alloc (.cells #[.int .u8 0, .int .u8 0, .int .u8 0, .int .u8 0, .int .u8 0, .int .u8 0, .int .u8 0, .int .u8 0, .int .u8 0, .int .u8 0, .int .u8 0, .int .u8 0, .int .u8 0, .int .u8 0, .int .u8 0, .int .u8 0, .int .u8 0, .int .u8 0, .int .u8 0, .int .u8 0, .int .u8 0, .int .u8 0, .int .u8 0, .int .u8 0, .int .u8 0, .int .u8 0, .int .u8 0, .int .u8 0, .int .u8 0, .int .u8 0, .int .u8 0, .int .u8 0] 27))) := bel1 _ _
  obtain ⟨W0, hW0⟩ : ∃ W, W = w.alloc (.cells #[.int .u8 0, .int .u8 0, .int .u8 0, .int .u8 0, .int .u8 0, .int .u8 0, .int .u8 0, .int .u8 0, .int .u8 0, .int .u8 0, .int .u8 0, .int .u8 0, .int .u8 0, .int .u8 0, .int .u8 0, .int .u8 0, .int .u8 0, .int .u8 0, .int .u8 0, .int .u8 0, .int .u8 0, .int .u8 0, .int .u8 0, .int .u8 0, .int .u8 0, .int .u8 0, .int .u8 0, .int .u8 0, .int .u8 0, .int .u8 0, .int .u8 0, .int .u8 0] 27) := ⟨_, rfl⟩
  obtain ⟨q2, hq2⟩ : ∃ q, q = w.heap.size := ⟨_, rfl⟩
  rw [← hW0] at HD HB ⊢
  have HQ : Hid (q2 = w.heap.size) := hq2
  rw [← hq2] at HD ⊢
  have k1 : q2 < W0.heap.size := there_lt HD.out (by decide)
  replace HX : Hid (Hx W0 b l) := HX.out.later HB.out
  replace HG : Hid (Gb W0) := HG.out.later HB.out
  clear hW0 hq2
  have hrg : W0.rangeAt b 0 hc := by rw [HC.out]; exact HX.out.h.ar.rng
  go_cut [3] from 7 (fun tv wx => tv = .pointer (some ⟨W0.heap.size, 0, none⟩) ∧ Hid (Hs wx W0.heap.size (hb7 l (kb7 l.length)) ((64 * kb7 l.length : Nat) : Int) (pad7 (l.drop (64 * kb7 l.length))) (l.length - 64 * kb7 l.length)) ∧ Hid (Below W0.heap.size W0 wx))
  case first =>
    have hzero := zero_hash
    have e74 : hc.toArray.size = 74 := by simpa using hlenc
    go_wp2_with (first
      | (refine wpList_load_mid rfl 89 (.tmp 8) rfl b 0 rfl hc _ hrg Tryd.underlying89 rfl hic ?_)
      | (refine wpList_store_mid rfl 89 (.tmp 3) (.tmp 9) rfl W0.heap.size 0 hc.toArray rfl rfl (by rw [e74]; refine there_new W0 74 _ ?_ _; rfl) (by simpa using hic) (all_oneCell_toArray honec) ?_))
    go_meet
    case rel => exact ⟨rfl, ⟨by rw [← HC.out]; exact ar_var W0 _ 74 rfl _ _ hlenc, HX.out.h.wst, HX.out.h.wt, HX.out.h.wbl, HX.out.h.wk⟩, bel_var _ _ _ _⟩
  case rest =>
  obtain ⟨rfl, HS, HV⟩ := hcut
  clear hrg
  obtain ⟨W1, hW1⟩ : ∃ W, W = wc := ⟨_, rfl⟩
  obtain ⟨b3, hb3⟩ : ∃ q, q = W0.heap.size := ⟨_, rfl⟩
  rw [← hW1] at HS HV ⊢
  rw [← hb3] at HS k1 ⊢
  have kw : w.heap.size ≤ b3 := by rw [hb3]; exact HB.out.size
  replace HD : Hid (W1.there q2 0 32) := there_later HV.out HD.out
  replace HB : Hid (Below w.heap.size w W1) := HB.out.trans (HV.out.mono HB.out.size)
  replace HG : Hid (Gb W1) := HG.out.later HV.out
  clear hW1 hb3 HV hlenc honec hic HC hc
  go_wp2_with fail
  refine (press_c b3 _ _ _ _ true _ HS.out HG.out (by omega) (by omega) (by have := kb7_le l.length; omega)).mono ?_
  rintro e V ⟨rfl, HP, hb⟩
  obtain ⟨st, Hst⟩ : ∃ st, Hid (st = pr7 (hb7 l (kb7 l.length)) (pad7 (l.drop (64 * kb7 l.length))) (((64 * kb7 l.length : Nat) : Int) + ((l.length - 64 * kb7 l.length : Nat) : Int)) true) := ⟨_, rfl⟩
  rw [← Hst.out] at HP
  have HSW : Hid (Wn 8 st) := HP.out.wst
  have HST : Hid (V.rangeAt b3 0 (List.map (Value.int .u32) st)) := HP.out.state
  have HSM : Hid (ou7 st 8 = sum7 l) := by unfold Hid; rw [Hst.out]; exact sum7_end rfl
  replace HD : Hid (V.there q2 0 32) := there_extb hb (by omega) HD.out
  replace HB : Hid (Below w.heap.size w V) := hb.below HB.out kw
  have kV : b3 < V.heap.size := HP.out.lt
  clear hb HP Hst HS HG HX
  obtain ⟨_, _, hi8⟩ := st_cells HSW.out
  have HST2 : Hid ((V.alloc (.cells #[.int .u8 0, .int .u8 0, .int .u8 0, .int .u8 0, .int .u8 0, .int .u8 0, .int .u8 0, .int .u8 0, .int .u8 0, .int .u8 0, .int .u8 0, .int .u8 0, .int .u8 0, .int .u8 0, .int .u8 0, .int .u8 0, .int .u8 0, .int .u8 0, .int .u8 0, .int .u8 0, .int .u8 0, .int .u8 0, .int .u8 0, .int .u8 0, .int .u8 0, .int .u8 0, .int .u8 0, .int .u8 0, .int .u8 0, .int .u8 0, .int .u8 0, .int .u8 0] 27)).rangeAt b3 0 (List.map (Value.int .u32) st)) := range_later (bel1 _ _) HST.out
  have HM : Hid (Mq w q2 V.heap.size (ou7 st 0) (V.alloc (.cells #[.int .u8 0, .int .u8 0, .int .u8 0, .int .u8 0, .int .u8 0, .int .u8 0, .int .u8 0, .int .u8 0, .int .u8 0, .int .u8 0, .int .u8 0, .int .u8 0, .int .u8 0, .int .u8 0, .int .u8 0, .int .u8 0, .int .u8 0, .int .u8 0, .int .u8 0, .int .u8 0, .int .u8 0, .int .u8 0, .int .u8 0, .int .u8 0, .int .u8 0, .int .u8 0, .int .u8 0, .int .u8 0, .int .u8 0, .int .u8 0, .int .u8 0, .int .u8 0] 27))) := ⟨(fun j v hv => by simp [ou7] at hv), there_new _ 32 #[.int .u8 0, .int .u8 0, .int .u8 0, .int .u8 0, .int .u8 0, .int .u8 0, .int .u8 0, .int .u8 0, .int .u8 0, .int .u8 0, .int .u8 0, .int .u8 0, .int .u8 0, .int .u8 0, .int .u8 0, .int .u8 0, .int .u8 0, .int .u8 0, .int .u8 0, .int .u8 0, .int .u8 0, .int .u8 0, .int .u8 0, .int .u8 0, .int .u8 0, .int .u8 0, .int .u8 0, .int .u8 0, .int .u8 0, .int .u8 0, .int .u8 0, .int .u8 0] rfl 27, there_later (bel1 _ _) HD.out, HB.out.trans ((bel1 _ _).mono HB.out.size)⟩
  go_wp2_with (refine wpList_load_mid rfl 68 (.tmp 11) rfl b3 0 rfl (List.map (Value.int .u32) st) _ HST2.out Tryd.underlying68 rfl hi8 ?_)
  clear hi8 HST HST2 HD
  obtain ⟨W3, hW3⟩ : ∃ W, W = V.alloc (.cells #[.int .u8 0, .int .u8 0, .int .u8 0, .int .u8 0, .int .u8 0, .int .u8 0, .int .u8 0, .int .u8 0, .int .u8 0, .int .u8 0, .int .u8 0, .int .u8 0, .int .u8 0, .int .u8 0, .int .u8 0, .int .u8 0, .int .u8 0, .int .u8 0, .int .u8 0, .int .u8 0, .int .u8 0, .int .u8 0, .int .u8 0, .int .u8 0, .int .u8 0, .int .u8 0, .int .u8 0, .int .u8 0, .int .u8 0, .int .u8 0, .int .u8 0, .int .u8 0] 27) := ⟨_, rfl⟩
  obtain ⟨b4, hb4⟩ : ∃ q, q = V.heap.size := ⟨_, rfl⟩
  rw [← hW3] at HM ⊢
  rw [← hb4] at HM kV ⊢
  have hw4 : w.heap.size ≤ b4 := by rw [hb4]; exact HB.out.size
  have hq4 : q2 ≠ b4 := by omega
  clear hW3 hb4 HB
  go_loopw [13] (fun i wr => ∃ k : Nat, k ≤ 8 ∧ i = .int .i64 k ∧ Hid (Mq w q2 b4 (ou7 st k) wr)) (fun i _ => 8 - (intOf i).toNat)
  case atStart => exact ⟨0, by decide, rfl, HM⟩
  case round =>
    clear HM
    obtain ⟨k, hk, rfl, HO⟩ := hrel
    by_cases hlt : k < 8
    · have c1 : (k : Int) < 8 := by omega
      have hix := idx7 st HSW.out k hlt
      obtain ⟨z, HZ⟩ : ∃ x, Hid (x = st[k]!) := ⟨_, rfl⟩
      rw [← HZ.out] at hix
      have hzw : W7 z := by rw [HZ.out]; exact getW7 HSW.out.wd k
      have hw4' : IntKind.i64.wrap (4 * (k : Int)) = 4 * k := by rw [IntKind.wrap_i64]; omega
      have g2 : 4 * (k : Int) ≤ 32 := by omega
      have g3 : 0 ≤ 4 * (k : Int) := by omega
      have htn : (4 * (k : Int)).toNat = 4 * k := by omega
      have hn64 : ¬ 32 = 4 * k := by omega
      go_upto_region 7 with fail
      refine wp_region_noPanic ?_
      refine wp_region_held_drew (S := ExtB b4 wr) (by kernel_rfl) (ExtB.refl _ _).drew (fun hH => ?_)
      change wpAnyH _ _ _ _ _ _ #[false, false, false, false, false, false] _ _
      refine wpAnyH_take (i := 0) (oi := ?o0h7) (v := ?v0h7) ?h0h7 (by kernel_rfl) ?f0h7 ?r0h7 (fun _ _ _ h => h) (Or.inl ⟨?w0h7, ?y0h7⟩) (by assumption) ?t0h7
      case h0h7 => simp only [List.getElem?_toArray]; rfl
      case f0h7 => kernel_rfl
      case r0h7 => kernel_rfl
      case w0h7 => rfl
      case y0h7 => (intro u hu; (go_simp) <;> with_reducible rfl)
      try simp only [Act.put, List.setIfInBounds_toArray, List.set_cons_zero, List.set_cons_succ]
      refine wpAnyH_take (i := 1) (oi := ?o1h7) (v := ?v1h7) ?h1h7 (by kernel_rfl) ?f1h7 ?r1h7 (fun _ _ _ h => h) (Or.inl ⟨?w1h7, ?y1h7⟩) (by assumption) ?t1h7
      case h1h7 => simp only [List.getElem?_toArray]; rfl
      case f1h7 => kernel_rfl
      case r1h7 => kernel_rfl
      case w1h7 => rfl
      case y1h7 => (intro u hu; (go_simp) <;> with_reducible rfl)
      try simp only [Act.put, List.setIfInBounds_toArray, List.set_cons_zero, List.set_cons_succ]
      refine wpAnyH_take (i := 2) (oi := ?o2h7) (v := ?v2h7) ?h2h7 (by kernel_rfl) ?f2h7 ?r2h7 (fun _ _ _ h => h) (Or.inl ⟨?w2h7, ?y2h7⟩) (by assumption) ?t2h7
      case h2h7 => simp only [List.getElem?_toArray]; rfl
      case f2h7 => kernel_rfl
      case r2h7 => kernel_rfl
      case w2h7 => rfl
      case y2h7 => (intro u hu; (go_simp) <;> with_reducible rfl)
      try simp only [Act.put, List.setIfInBounds_toArray, List.set_cons_zero, List.set_cons_succ]
      refine wpAnyH_take (i := 3) (oi := ?o3h7) (v := ?v3h7) ?h3h7 (by kernel_rfl) ?f3h7 ?r3h7 (fun _ _ _ h => h) (Or.inl ⟨?w3h7, ?y3h7⟩) (by assumption) ?t3h7
      case h3h7 => simp only [List.getElem?_toArray]; rfl
      case f3h7 => kernel_rfl
      case r3h7 => kernel_rfl
      case w3h7 => rfl
      case y3h7 => (intro u hu; (go_simp) <;> with_reducible rfl)
      try simp only [Act.put, List.setIfInBounds_toArray, List.set_cons_zero, List.set_cons_succ]
      refine wpAnyH_ready (rs := [4]) (by kernel_rfl) (by simp) ?_
      refine AllReadyH.cons (o := ?o4h7) ?h4h7 (fun K hK => ?_) AllReadyH.nil
      case h4h7 => simp only [List.getElem?_toArray]; rfl
      go_simp
      refine (put32_r z _ hzw).mono ?_
      rintro e V ⟨g, rfl, HG, hb⟩
      refine hK.out _ _ (hH.trans hb) (fun hH' => ?_)
      clear hK K hH
      have hH := hH'
      clear hH'
      try simp only [List.setIfInBounds_toArray, List.set]
      replace hb : Below wr.heap.size wr V := (Below.refl _ _).drew.trans (hb.mono (Nat.le_refl _))
      have HO' : Hid (Mq w q2 b4 (ou7 st k) V) := HO.out.later hb
      have HP : Hid (Mq w q2 b4 (ou7 st (k + 1)) (V.setCells b4 (4 * k) (List.map (Value.int .u8) (lay 4 z)))) := by unfold Hid; rw [ou7, ← HZ.out]; exact HO'.out.more k hlt hq4 (by omega) _ (lay_length _ _) (ou7_len _ _)
      have hcp := fun ty => copy_c V b4 (4 * k) (32 - 4 * k) (32 - 4 * k) ⟨g, 0, none⟩ 4 4 (lay 4 z) HG.out 4 (by omega) (there_part HO'.out.out (4 * k) 4 (by omega)) ty
      rw [List.take_of_length_le (by rw [lay_length]; exact Nat.le_refl _)] at hcp
      clear hb HO HO'
      refine wpAnyH_ready (rs := [5]) (by kernel_rfl) (by simp) ?_
      refine AllReadyH.cons (o := ?o5h7) ?h5h7 (fun K hK => ?_) AllReadyH.nil
      case h5h7 => simp only [List.getElem?_toArray]; rfl
      go_simp
      refine hK.out _ _ (extB_setCells _ _ _ hH) (fun hH' => ?_)
      clear hK K hH
      have hH := hH'
      clear hH'
      try simp only [List.setIfInBounds_toArray, List.set]
      clear hcp hH HG
      refine wpAnyH_done (by kernel_rfl) ?_ _
      refine NoPanic.normal ?_
      obtain ⟨V', hV'⟩ : ∃ U, U = V.setCells b4 (4 * k) (List.map (Value.int .u8) (lay 4 z)) := ⟨_, rfl⟩
      rw [← hV'] at HP ⊢
      clear hV' hix hw4' g2 g3 htn hn64
      go_wp2
      go_roundw
      case rel => exact ⟨k + 1, by omega, by go_num, HP⟩
      case measure => simp [intOf]; omega
    · have e : k = 8 := by omega
      subst e
      obtain ⟨S, HSS⟩ : ∃ S, Hid (S = sum7 l) := ⟨_, rfl⟩
      have hSn : Bn 32 S := by rw [HSS.out]; exact sum7_bn l
      have hR : wr.rangeAt b4 0 (List.map (Value.int .u8) S) := by rw [HSS.out, ← HSM.out]; exact HO.out.rng
      obtain ⟨hlen, hone, hi⟩ := bn32_cells hSn
      obtain ⟨cs, hcs⟩ : ∃ cs, cs = (List.map (Value.int .u8) S) := ⟨_, rfl⟩
      have HC : Hid (cs = (List.map (Value.int .u8) S)) := hcs
      rw [← hcs] at hlen hone hi hR
      clear hcs
      have hth := HO.out.res
      go_wp2_with (first
        | (refine wpList_load_mid rfl 27 (.tmp 4) rfl b4 0 rfl cs _ hR Tryd.underlying27 rfl hi ?_)
        | (refine wpList_store_mid rfl 27 (.tmp 2) (.tmp 24) rfl q2 0 cs.toArray rfl rfl (by simpa [hlen] using hth) (by simpa using hi) (all_oneCell_toArray hone) ?_))
      have HR2 : Hid ((wr.setCells q2 0 cs).rangeAt q2 0 cs) := World.rangeAt_setCells_same _ _ _ _ (by rw [hlen]; exact hth)
      have hld := run_loadVar_mid (P := Tryd.prog) _ _ 0 27 _ _ HR2.out Tryd.underlying27 rfl hi
      exact bodyPost_ret (v := .agg cs.toArray) (by simp [results, Tryd.results37]; exact hld) rfl ⟨S, by rw [HC.out], HSS, below_setCells _ (by have := HQ.out; omega) _ _ _ HO.out.bel⟩

set_option maxRecDepth 8000 in
set_option maxHeartbeats 4000000 in
theorem sum_c (a : Option Addr) (len cap : Nat) (L : List (List Int)) (w : World) (hr : RdL w a len L) (hg : Gb w) (hlen : len ≤ 281474976710656) (hT : L.flatten.length ≤ 4611686018427387904) :
    Calls Tryd.prog 24 #[.slice a len cap] w fun e w' => ∃ S, e = .returned (.agg (List.map (Value.int .u8) S).toArray) ∧ Hid (S = sum7 L.flatten) ∧ Below w.heap.size w w' := by
  have HR : Hid (RdL w a len L) := hr
  have HG : Hid (Gb w) := hg
  have g0 := hg.ivlt
  have g1 := hg.sglt
  have HLL : Hid (L.length = len) := hr.hlen
  clear hr hg
  go_enter Tryd.func24, Tryd.ntmps24
  go_upto_region 1 with fail
  have HD : Hid ((w.alloc (.cells #[.int .u8 0, .int .u8 0, .int .u8 0, .int .u8 0, .int .u8 0, .int .u8 0, .int .u8 0, .int .u8 0, .int .u8 0, .int .u8 0, .int .u8 0, .int .u8 0, .int .u8 0, .int .u8 0, .int .u8 0, .int .u8 0, .int .u8 0, .int .u8 0, .int .u8 0, .int .u8 0, .int .u8 0, .int .u8 0, .int .u8 0, .int .u8 0, .int .u8 0, .int .u8 0, .int .u8 0, .int .u8 0, .int .u8 0, .int .u8 0, .int .u8 0, .int .u8 0] 27)).there w.heap.size 0 32) := there_new _ 32 #[.int .u8 0, .int .u8 0, .int .u8 0, .int .u8 0, .int .u8 0, .int .u8 0, .int .u8 0, .int .u8 0, .int .u8 0, .int .u8 0, .int .u8 0, .int .u8 0, .int .u8 0, .int .u8 0, .int .u8 0, .int .u8 0, .int .u8 0, .int .u8 0, .int .u8 0, .int .u8 0, .int .u8 0, .int .u8 0, .int .u8 0, .int .u8 0, .int .u8 0, .int .u8 0, .int .u8 0, .int .u8 0, .int .u8 0, .int .u8 0, .int .u8 0, .int .u8 0] rfl 27
  have HB : Hid (Below w.heap.size w (w.alloc (.cells #[.int .u8 0, .int .u8 0, .int .u8 0, .int .u8 0, .int .u8 0, .int .u8 0, .int .u8 0, .int .u8 0, .int .u8 0, .int .u8 0, .int .u8 0, .int .u8 0, .int .u8 0, .int .u8 0, .int .u8 0, .int .u8 0, .int .u8 0, .int .u8 0, .int .u8 0, .int .u8 0, .int .u8 0, .int .u8 0, .int .u8 0, .int .u8 0, .int .u8 0, .int .u8 0, .int .u8 0, .int .u8 0, .int .u8 0, .int .u8 0, .int .u8 0, .int .u8 0] 27))) := bel1 _ _
  obtain ⟨W0, hW0⟩ : ∃ W, W = w.alloc (.cells #[.int .u8 0, .int .u8 0, .int .u8 0, .int .u8 0, .int .u8 0, .int .u8 0, .int .u8 0, .int .u8 0, .int .u8 0, .int .u8 0, .int .u8 0, .int .u8 0, .int .u8 0, .int .u8 0, .int .u8 0, .int .u8 0, .int .u8 0, .int .u8 0, .int .u8 0, .int .u8 0, .int .u8 0, .int .u8 0, .int .u8 0, .int .u8 0, .int .u8 0, .int .u8 0, .int .u8 0, .int .u8 0, .int .u8 0, .int .u8 0, .int .u8 0, .int .u8 0] 27) := ⟨_, rfl⟩
  obtain ⟨q2, hq2⟩ : ∃ q, q = w.heap.size := ⟨_, rfl⟩
  rw [← hW0] at HD HB ⊢
  have HQ : Hid (q2 = w.heap.size) := hq2
  rw [← hq2] at HD ⊢
  have k1 : q2 < W0.heap.size := there_lt HD.out (by decide)
  clear hW0 hq2
  go_wp2_with fail
  refine (new_c _ (HG.out.later HB.out)).mono ?_
  rintro e W1 ⟨rfl, HX, hb⟩
  obtain ⟨b0, hb0⟩ : ∃ q, q = W0.heap.size := ⟨_, rfl⟩
  rw [← hb0] at HX k1 ⊢
  have kb : w.heap.size ≤ b0 := by rw [hb0]; exact HB.out.size
  replace HD : Hid (W1.there q2 0 32) := there_later hb HD.out
  replace HB : Hid (Below w.heap.size w W1) := HB.out.trans (hb.mono HB.out.size)
  have H0 : Hid (Hx W1 b0 (L.take 0).flatten) := by unfold Hid; rw [List.take_zero]; exact HX.out
  clear hb hb0 HX
  go_wp2
  go_loopw [9] (fun i wr => ∃ k : Nat, k ≤ len ∧ i = .int .i64 k ∧ Hid (Hx wr b0 (L.take k).flatten) ∧ Hid (wr.there q2 0 32) ∧ Hid (Below w.heap.size w wr)) (fun i _ => len - (intOf i).toNat)
  case atStart => exact ⟨0, Nat.zero_le _, rfl, H0, HD, HB⟩
  case round =>
    clear H0 HD HB
    obtain ⟨k, hk, rfl, HX, HD, HB⟩ := hrel
    by_cases hlt : k < len
    · have c1 : (k : Int) < len := by omega
      obtain ⟨bL, off, rfl, hc⟩ := HR.out.cell (by omega)
      obtain ⟨ai, ni, ci, cc, hrd⟩ := hc k hlt
      have HRD : Hid (Rd w ai ni ci (L[k]?.getD [])) := hrd
      have cx := cell_later HB.out cc
      have hne : 0 < ni → ∀ p, ai = some p → p.block ≠ b0 := by
        intro h0 p hp
        obtain ⟨b', o', ha, hc'⟩ := HRD.out.cell h0
        rw [ha] at hp
        cases hp
        have := World.block_lt_of_cell? w _ (hc' 0 h0)
        dsimp only at this ⊢
        omega
      have HNE : Hid (0 < ni → ∀ p, ai = some p → p.block ≠ b0) := hne
      have hfl : ((L.take k).flatten).length + ni ≤ 4611686018427387904 := by
        have h1 := flen_le L (k + 1)
        rw [flen_succ L k (by rw [HLL.out]; exact hlt), HRD.out.hlen] at h1
        unfold flen at h1
        omega
      clear hc cc hrd hne
      go_wp2_with fail
      refine (write_c b0 _ ai ni ci (L[k]?.getD []) _ HX.out (HG.out.later HB.out) (by omega) (by omega) (HRD.out.below HB.out) HNE.out hfl).mono ?_
      rintro e V ⟨rfl, HX2, hb⟩
      rw [← flat_succ L k (by rw [HLL.out]; exact hlt)] at HX2
      replace HD : Hid (V.there q2 0 32) := there_extb hb (by omega) HD.out
      replace HB : Hid (Below w.heap.size w V) := hb.below HB.out kb
      clear hb cx
      go_wp2
      go_roundw
      case rel => exact ⟨k + 1, by omega, by go_num, HX2, HD, HB⟩
      case measure => simp [intOf]; omega
    · have e : k = len := by omega
      subst e
      rw [List.take_of_length_le (by rw [HLL.out]; exact Nat.le_refl _)] at HX
      go_wp2_with fail
      refine (sumh_c b0 _ _ HX.out (HG.out.later HB.out) hT).mono ?_
      rintro e V ⟨S, rfl, HS, hb⟩
      have hSn : Bn 32 S := by rw [HS.out]; exact sum7_bn _
      replace HD : Hid (V.there q2 0 32) := there_later hb HD.out
      replace HB : Hid (Below w.heap.size w V) := HB.out.trans (hb.mono HB.out.size)
      clear hb HX
      obtain ⟨hlen', hone, hi⟩ := bn32_cells hSn
      obtain ⟨cs, hcs⟩ : ∃ cs, cs = (List.map (Value.int .u8) S) := ⟨_, rfl⟩
      have HC : Hid (cs = (List.map (Value.int .u8) S)) := hcs
      rw [← hcs] at hlen' hone hi ⊢
      clear hcs
      have hth := HD.out
      go_wp2_with (refine wpList_store_mid rfl 27 (.tmp 2) (.tmp 18) rfl q2 0 cs.toArray rfl rfl (by simpa [hlen'] using hth) (by simpa using hi) (all_oneCell_toArray hone) ?_)
      have HR2 : Hid ((V.setCells q2 0 cs).rangeAt q2 0 cs) := World.rangeAt_setCells_same _ _ _ _ (by rw [hlen']; exact hth)
      have hld := run_loadVar_mid (P := Tryd.prog) _ _ 0 27 _ _ HR2.out Tryd.underlying27 rfl hi
      exact bodyPost_ret (v := .agg cs.toArray) (by simp [results, Tryd.results24]; exact hld) rfl ⟨S, by rw [HC.out], HS, below_setCells _ (by have := HQ.out; omega) _ _ _ HB.out⟩
end Go.Proofs.YtmibjgkakolhiaaDoor
