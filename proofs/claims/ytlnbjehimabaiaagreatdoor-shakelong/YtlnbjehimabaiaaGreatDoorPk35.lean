/-
  Several texts of one's own, laid together. No statement of the seat is proved here.
-/
import Derived.Test.YtlnbjehimabaiaaGreatDoorPk1
import Derived.Test.YtlnbjehimabaiaaGreatDoorPk34
import Derived.Test.YtlnbjehimabaiaaGreatDoorPk16
import Derived.Test.YtlnbjehimabaiaaGreatDoorPk9
import Derived.Lib.SlBytesConst
import Derived.Lib.ConvBytes
import Derived.Lib.LazyBuf
import Derived.Test.YtlnbjehimabaiaaGreatDoorPk3
/-
 What (*Hash).Sum and Sum do: BLAKE2s of what was written, of a list of bytes. No statement of the seat is proved here.
-/
namespace Go.Proofs.YtlnbjehimabaiaaGreatDoor
open Go.RowKit
set_option maxRecDepth 8000

theorem hs_cells {st : List Int} {t : Int} {bl : List Int} {k : Nat} (h1 : Wn 8 st) (h2 : Bn 64 bl) : (hc7 st t bl k).length = 74 ∧ (∀ v ∈ hc7 st t bl k, v.oneCell' = true) ∧ (Tryz.prog.info? 183).map (·.size) = some (hc7 st t bl k).length := by
 have e := hc7_len (t := t) (k := k) h1.len h2.len
 refine ⟨e, fun v hv => ?_, by rw [e]; kernel_rfl⟩
 unfold hc7 at hv
 rcases List.mem_append.1 hv with hv | hv
 ·obtain ⟨n, _, rfl⟩ := List.mem_map.1 hv; rfl
 ·rcases List.mem_cons.1 hv with rfl | hv
  ·rfl
  ·rcases List.mem_append.1 hv with hv | hv
   ·obtain ⟨n, _, rfl⟩ := List.mem_map.1 hv; rfl
   ·rw [List.mem_singleton.1 hv]; rfl
def zc7 : List Value := hc7 z8w 0 z64w 0
theorem zero_hash (w : World) : Sem.run Tryz.prog (zeroValue 183) w = .ok (.agg zc7.toArray) w := by kernel_rfl
theorem put32_r (n : Int) (w : World) (h : W7 n) :
  Calls Tryz.prog 145 #[.int .u32 n] w fun e w' => ∃ g, e = .returned (.slice (some ⟨g, 0, none⟩) 4 4) ∧ Hid (Rd w' (some ⟨g, 0, none⟩) 4 4 (lay 4 n)) ∧ Below w.heap.size w w' := by
 refine (put32_any n w h.1 h.2).mono ?_
 rintro e w' ⟨rfl, hr, hb⟩
 exact ⟨_, rfl, hr, hb⟩
structure Mq (w : World) (q2 b4 : Nat) (O : List Int) (u : World) : Prop where
 rng : u.rangeAt b4 0 (List.map (Value.int .u8) O)
 out : u.there b4 0 32
 res : u.there q2 0 32
 bel : Below w.heap.size w u
theorem Mq.later {w : World} {q2 b4 : Nat} {O : List Int} {u v : World} (h : Mq w q2 b4 O u) (hb : Below u.heap.size u v) : Mq w q2 b4 O v := ⟨range_later hb h.rng, there_later hb h.out, there_later hb h.res, h.bel.trans (hb.mono h.bel.size)⟩
theorem Mq.more {w : World} {q2 b4 : Nat} {O : List Int} {u : World} (h : Mq w q2 b4 O u) (k : Nat) (hk : k < 8) (_hq : q2 ≠ b4) (hw : w.heap.size ≤ b4) (l : List Int) (hl : l.length = 4) (hO : O.length = 4 * k) : Mq w q2 b4 (O ++ l) (u.setCells b4 (4 * k) (List.map (Value.int .u8) l)) :=
 ⟨by rw [List.map_append]; exact range_more h.rng (by rw [List.length_map, hO]) 32 h.out (by rw [List.length_map, hl]; omega), World.there_setCells h.out _ _ _, World.there_setCells h.res _ _ _, below_setCells _ hw _ _ _ h.bel⟩

set_option maxHeartbeats 4000000 in
theorem sumh_c (b : Nat) (l : List Int) (w : World) (hx : Hx w b l) (hg : Gb w) (hlen : l.length ≤ 4611686018427387904) :
  Calls Tryz.prog 122 #[.pointer (some ⟨b, 0, none⟩)] w fun e w' => ∃ S, e = .returned (.agg (List.map (Value.int .u8) S).toArray) ∧ Hid (S = sum7 l) ∧ Below w.heap.size w w' := by
 have HX : Hid (Hx w b l) := hx
 have HG : Hid (Gb w) := hg
 have hbw := hx.lt
 have g0 := hg.ivlt
 have g1 := hg.sglt
 obtain ⟨hc, hhc⟩ : ∃ c, c = hc7 (hb7 l (kb7 l.length)) ((64 * kb7 l.length : Nat) : Int) (pad7 (l.drop (64 * kb7 l.length))) (l.length - 64 * kb7 l.length) := ⟨_, rfl⟩
 have HC : Hid (hc = hc7 (hb7 l (kb7 l.length)) ((64 * kb7 l.length : Nat) : Int) (pad7 (l.drop (64 * kb7 l.length))) (l.length - 64 * kb7 l.length)) := hhc
 obtain ⟨hlenc, honec, hic⟩ := hs_cells (t := ((64 * kb7 l.length : Nat) : Int)) (k := l.length - 64 * kb7 l.length) hx.h.wst hx.h.wbl
 rw [← hhc] at hlenc honec hic
 clear hx hg hhc
 go_enter Tryz.func122, Tryz.ntmps122
 go_upto_region 1 with fail
 have HD : Hid ((w.alloc (.cells zb32 30)).there w.heap.size 0 32) := there_new _ 32 zb32 rfl 30
 have HB : Hid (Below w.heap.size w (w.alloc (.cells zb32 30))) := bel1 _ _
 obtain ⟨W0, hW0⟩ : ∃ W, W = w.alloc (.cells zb32 30) := ⟨_, rfl⟩
 obtain ⟨q2, hq2⟩ : ∃ q, q = w.heap.size := ⟨_, rfl⟩
 rw [← hW0] at HD HB ⊢
 have HQ : Hid (q2 = w.heap.size) := hq2
 rw [← hq2] at HD ⊢
 have k1 : q2 < W0.heap.size := there_lt HD.out (by decide)
 replace HX := hidp (HX.out.later HB.out)
 replace HG := hidp (HG.out.later HB.out)
 clear hW0 hq2
 have hrg : W0.rangeAt b 0 hc := by rw [HC.out]; exact HX.out.h.ar.rng
 go_cut [3] from 7 (fun tv wx => tv = .pointer (some ⟨W0.heap.size, 0, none⟩) ∧ Hid (Hs wx W0.heap.size (hb7 l (kb7 l.length)) ((64 * kb7 l.length : Nat) : Int) (pad7 (l.drop (64 * kb7 l.length))) (l.length - 64 * kb7 l.length)) ∧ Hid (Below W0.heap.size W0 wx))
 case first =>
  have hzero := zero_hash
  have e74 : hc.toArray.size = 74 := by simpa using hlenc
  go_wp2_with (first
   | (refine wpList_load_mid rfl 183 (.tmp 8) rfl b 0 rfl hc _ hrg Tryz.underlying183 rfl hic ?_)
   | (refine wpList_store_mid rfl 183 (.tmp 3) (.tmp 9) rfl W0.heap.size 0 hc.toArray rfl rfl (by rw [e74]; refine there_new W0 74 _ ?_ _; rfl) (by simpa using hic) (all_oneCell_toArray honec) ?_))
  go_meet
  case rel => exact ⟨rfl, ⟨by rw [← HC.out]; exact ar_var W0 _ 74 rfl _ _ hlenc, HX.out.h.wst, HX.out.h.wt, HX.out.h.wbl, HX.out.h.wk⟩, bel_var _ _ _ _⟩
 case rest =>
 obtain ⟨rfl, HS, HV⟩ := hcut
 clear hrg
 obtain ⟨W1, hW1⟩ : ∃ W, W = wc := ⟨_, rfl⟩
 obtain ⟨b3, hb3⟩ : ∃ q, q = W0.heap.size := ⟨_, rfl⟩
 rw [← hW1] at HS HV ⊢
 rw [← hb3] at HS k1 ⊢
 have kw : w.heap.size ≤ b3 := by rw [hb3]; exact HB.out.size
 replace HD : Hid (W1.there q2 0 32) := there_later HV.out HD.out
 replace HB := hidp (HB.out.trans (HV.out.mono HB.out.size))
 replace HG := hidp (HG.out.later HV.out)
 clear hW1 hb3 HV hlenc honec hic HC hc
 go_wp2_with fail
 refine (press_c b3 _ _ _ _ true _ HS.out HG.out (by omega) (by omega) (by have := kb7_le l.length; omega)).mono ?_
 rintro e V ⟨rfl, HP, hb⟩
 obtain ⟨st, Hst⟩ : ∃ st, Hid (st = pr7 (hb7 l (kb7 l.length)) (pad7 (l.drop (64 * kb7 l.length))) (((64 * kb7 l.length : Nat) : Int) + ((l.length - 64 * kb7 l.length : Nat) : Int)) true) := ⟨_, rfl⟩
 rw [← Hst.out] at HP
 have HSW : Hid (Wn 8 st) := HP.out.wst
 have HST : Hid (V.rangeAt b3 0 (List.map (Value.int .u32) st)) := HP.out.state
 have HSM : Hid (ou7 st 8 = sum7 l) := by unfold Hid; rw [Hst.out]; exact sum7_end rfl
 replace HD : Hid (V.there q2 0 32) := there_extb hb (by omega) HD.out
 replace HB : Hid (Below w.heap.size w V) := hb.below HB.out kw
 have kV : b3 < V.heap.size := HP.out.lt
 clear hb HP Hst HS HG HX
 obtain ⟨_, _, hi8⟩ := st_cells HSW.out
 have HST2 : Hid ((V.alloc (.cells zb32 30)).rangeAt b3 0 (List.map (Value.int .u32) st)) := range_later (bel1 _ _) HST.out
 have HM : Hid (Mq w q2 V.heap.size (ou7 st 0) (V.alloc (.cells zb32 30))) := ⟨(fun j v hv => by simp [ou7] at hv), there_new _ 32 zb32 rfl 30, there_later (bel1 _ _) HD.out, HB.out.trans ((bel1 _ _).mono HB.out.size)⟩
 go_wp2_with (refine wpList_load_mid rfl 138 (.tmp 11) rfl b3 0 rfl (List.map (Value.int .u32) st) _ HST2.out Tryz.underlying138 rfl hi8 ?_)
 clear hi8 HST HST2 HD
 obtain ⟨W3, hW3⟩ : ∃ W, W = V.alloc (.cells zb32 30) := ⟨_, rfl⟩
 obtain ⟨b4, hb4⟩ : ∃ q, q = V.heap.size := ⟨_, rfl⟩
 rw [← hW3] at HM ⊢
 rw [← hb4] at HM kV ⊢
 have hw4 : w.heap.size ≤ b4 := by rw [hb4]; exact HB.out.size
 have hq4 : q2 ≠ b4 := by omega
 clear hW3 hb4 HB
 go_loopw [13] (fun i wr => ∃ k : Nat, k ≤ 8 ∧ i = .int .i64 k ∧ Hid (Mq w q2 b4 (ou7 st k) wr)) (fun i _ => 8 - (intOf i).toNat)
 case atStart => exact ⟨0, by decide, rfl, HM⟩
 case round =>
  clear HM
  obtain ⟨k, hk, rfl, HO⟩ := hrel
  by_cases hlt : k < 8
  ·have c1 : (k : Int) < 8 := by omega
   have hix := idx7 st HSW.out k hlt
   obtain ⟨z, HZ⟩ : ∃ x, Hid (x = st[k]!) := ⟨_, rfl⟩
   rw [← HZ.out] at hix
   have hzw : W7 z := by rw [HZ.out]; exact getW7 HSW.out.wd k
   have hw4' : IntKind.i64.wrap (4 * (k : Int)) = 4 * k := by rw [IntKind.wrap_i64]; omega
   have g2 : 4 * (k : Int) ≤ 32 := by omega
   have g3 : 0 ≤ 4 * (k : Int) := by omega
   have htn : (4 * (k : Int)).toNat = 4 * k := by omega
   have hn64 : ¬ 32 = 4 * k := by omega
   go_upto_region 7 with fail
   refine wp_region_noPanic ?_
   refine wp_region_held_drew (S := ExtB b4 wr) (by kernel_rfl) (ExtB.refl _ _).drew (fun hH => ?_)
   change wpAnyH _ _ _ _ _ _ #[false, false, false, false, false, false] _ _
   refine tn 0 ?_
   refine tn 1 ?_
   refine tn 2 ?_
   refine tn 3 ?_
   refine rdy 4 (fun K hK => ?_)
   go_simp
   refine (put32_r z _ hzw).mono ?_
   rintro e V ⟨g, rfl, HG, hb⟩
   refine ko hK (hH.trans hb) fun hH => ?_; clear hK K
   replace hb : Below wr.heap.size wr V := (Below.refl _ _).drew.trans (hb.mono (Nat.le_refl _))
   have HO' : Hid (Mq w q2 b4 (ou7 st k) V) := HO.out.later hb
   have HP : Hid (Mq w q2 b4 (ou7 st (k + 1)) (V.setCells b4 (4 * k) (List.map (Value.int .u8) (lay 4 z)))) := by unfold Hid; rw [ou7, ← HZ.out]; exact HO'.out.more k hlt hq4 (by omega) _ (lay_length _ _) (ou7_len _ _)
   have hcp := fun ty => copy_c V b4 (4 * k) (32 - 4 * k) (32 - 4 * k) ⟨g, 0, none⟩ 4 4 (lay 4 z) HG.out 4 (by omega) (there_part HO'.out.out (4 * k) 4 (by omega)) ty
   rw [List.take_of_length_le (by rw [lay_length]; exact Nat.le_refl _)] at hcp
   clear hb HO HO'
   refine rdy 5 (fun K hK => ?_)
   go_simp
   refine ko hK (extB_setCells _ _ _ hH) fun hH => ?_; clear hK K
   clear hcp hH HG
   refine wpAnyH_done (by kernel_rfl) ?_ _
   refine NoPanic.normal ?_
   obtain ⟨V', hV'⟩ : ∃ U, U = V.setCells b4 (4 * k) (List.map (Value.int .u8) (lay 4 z)) := ⟨_, rfl⟩
   rw [← hV'] at HP ⊢
   clear hV' hix hw4' g2 g3 htn hn64
   go_wp2
   go_roundw
   case rel => exact ⟨k + 1, by omega, by go_num, HP⟩
   case measure => simp [intOf]; omega
  ·have e : k = 8 := by omega
   subst e
   obtain ⟨S, HSS⟩ : ∃ S, Hid (S = sum7 l) := ⟨_, rfl⟩
   have hSn : Bn 32 S := by rw [HSS.out]; exact sum7_bn l
   have hR : wr.rangeAt b4 0 (List.map (Value.int .u8) S) := by rw [HSS.out, ← HSM.out]; exact HO.out.rng
   obtain ⟨hlen, hone, hi⟩ := bn32_cells hSn
   obtain ⟨cs, hcs⟩ : ∃ cs, cs = (List.map (Value.int .u8) S) := ⟨_, rfl⟩
   have HC : Hid (cs = (List.map (Value.int .u8) S)) := hcs
   rw [← hcs] at hlen hone hi hR
   clear hcs
   have hth := HO.out.res
   go_wp2_with (first
    | (refine wpList_load_mid rfl 30 (.tmp 4) rfl b4 0 rfl cs _ hR Tryz.underlying30 rfl hi ?_)
    | (refine wpList_store_mid rfl 30 (.tmp 2) (.tmp 24) rfl q2 0 cs.toArray rfl rfl (by simpa [hlen] using hth) (by simpa using hi) (all_oneCell_toArray hone) ?_))
   have HR2 : Hid ((wr.setCells q2 0 cs).rangeAt q2 0 cs) := World.rangeAt_setCells_same _ _ _ _ (by rw [hlen]; exact hth)
   have hld := run_loadVar_mid (P := Tryz.prog) _ _ 0 30 _ _ HR2.out Tryz.underlying30 rfl hi
   exact bodyPost_ret (v := .agg cs.toArray) (by simp [results, Tryz.results122]; exact hld) rfl ⟨S, by rw [HC.out], HSS, below_setCells _ (by have := HQ.out; omega) _ _ _ HO.out.bel⟩

set_option maxHeartbeats 4000000 in
theorem sum_c (a : Option Addr) (len cap : Nat) (L : List (List Int)) (w : World) (hr : RdL w a len L) (hg : Gb w) (hlen : len ≤ 281474976710656) (hT : L.flatten.length ≤ 4611686018427387904) :
  Calls Tryz.prog 83 #[.slice a len cap] w fun e w' => ∃ S, e = .returned (.agg (List.map (Value.int .u8) S).toArray) ∧ Hid (S = sum7 L.flatten) ∧ Below w.heap.size w w' := by
 have HR : Hid (RdL w a len L) := hr
 have HG : Hid (Gb w) := hg
 have g0 := hg.ivlt
 have g1 := hg.sglt
 have HLL : Hid (L.length = len) := hr.hlen
 clear hr hg
 go_enter Tryz.func83, Tryz.ntmps83
 go_upto_region 1 with fail
 have HD : Hid ((w.alloc (.cells zb32 30)).there w.heap.size 0 32) := there_new _ 32 zb32 rfl 30
 have HB : Hid (Below w.heap.size w (w.alloc (.cells zb32 30))) := bel1 _ _
 obtain ⟨W0, hW0⟩ : ∃ W, W = w.alloc (.cells zb32 30) := ⟨_, rfl⟩
 obtain ⟨q2, hq2⟩ : ∃ q, q = w.heap.size := ⟨_, rfl⟩
 rw [← hW0] at HD HB ⊢
 have HQ : Hid (q2 = w.heap.size) := hq2
 rw [← hq2] at HD ⊢
 have k1 : q2 < W0.heap.size := there_lt HD.out (by decide)
 clear hW0 hq2
 go_wp2_with fail
 refine (new_c _ (HG.out.later HB.out)).mono ?_
 rintro e W1 ⟨rfl, HX, hb⟩
 obtain ⟨b0, hb0⟩ : ∃ q, q = W0.heap.size := ⟨_, rfl⟩
 rw [← hb0] at HX k1 ⊢
 have kb : w.heap.size ≤ b0 := by rw [hb0]; exact HB.out.size
 replace HD : Hid (W1.there q2 0 32) := there_later hb HD.out
 replace HB := hidp (HB.out.trans (hb.mono HB.out.size))
 have H0 : Hid (Hx W1 b0 (L.take 0).flatten) := by unfold Hid; rw [List.take_zero]; exact HX.out
 clear hb hb0 HX
 go_wp2
 go_loopw [9] (fun i wr => ∃ k : Nat, k ≤ len ∧ i = .int .i64 k ∧ Hid (Hx wr b0 (L.take k).flatten) ∧ Hid (wr.there q2 0 32) ∧ Hid (Below w.heap.size w wr)) (fun i _ => len - (intOf i).toNat)
 case atStart => exact ⟨0, Nat.zero_le _, rfl, H0, HD, HB⟩
 case round =>
  clear H0 HD HB
  obtain ⟨k, hk, rfl, HX, HD, HB⟩ := hrel
  by_cases hlt : k < len
  ·have c1 : (k : Int) < len := by omega
   obtain ⟨bL, off, rfl, hc⟩ := HR.out.cell (by omega)
   obtain ⟨ai, ni, ci, cc, hrd⟩ := hc k hlt
   have HRD : Hid (Rd w ai ni ci (L[k]?.getD [])) := hrd
   have cx := cell_later HB.out cc
   have hne : 0 < ni → ∀ p, ai = some p → p.block ≠ b0 := by
    intro h0 p hp
    obtain ⟨b', o', ha, hc'⟩ := HRD.out.cell h0
    rw [ha] at hp
    cases hp
    have := World.block_lt_of_cell? w _ (hc' 0 h0)
    dsimp only at this ⊢
    omega
   have HNE : Hid (0 < ni → ∀ p, ai = some p → p.block ≠ b0) := hne
   have hfl : ((L.take k).flatten).length + ni ≤ 4611686018427387904 := by
    have h1 := flen_le L (k + 1)
    rw [flen_succ L k (by rw [HLL.out]; exact hlt), HRD.out.hlen] at h1
    unfold flen at h1
    omega
   clear hc cc hrd hne
   go_wp2_with fail
   refine (write_c b0 _ ai ni ci (L[k]?.getD []) _ HX.out (HG.out.later HB.out) (by omega) (by omega) (HRD.out.below HB.out) HNE.out hfl).mono ?_
   rintro e V ⟨rfl, HX2, hb⟩
   rw [← flat_succ L k (by rw [HLL.out]; exact hlt)] at HX2
   replace HD : Hid (V.there q2 0 32) := there_extb hb (by omega) HD.out
   replace HB : Hid (Below w.heap.size w V) := hb.below HB.out kb
   clear hb cx
   go_wp2
   go_roundw
   case rel => exact ⟨k + 1, by omega, by go_num, HX2, HD, HB⟩
   case measure => simp [intOf]; omega
  ·have e : k = len := by omega
   subst e
   rw [List.take_of_length_le (by rw [HLL.out]; exact Nat.le_refl _)] at HX
   go_wp2_with fail
   refine (sumh_c b0 _ _ HX.out (HG.out.later HB.out) hT).mono ?_
   rintro e V ⟨S, rfl, HS, hb⟩
   have hSn : Bn 32 S := by rw [HS.out]; exact sum7_bn _
   replace HD : Hid (V.there q2 0 32) := there_later hb HD.out
   replace HB := hidp (HB.out.trans (hb.mono HB.out.size))
   clear hb HX
   obtain ⟨hlen', hone, hi⟩ := bn32_cells hSn
   obtain ⟨cs, hcs⟩ : ∃ cs, cs = (List.map (Value.int .u8) S) := ⟨_, rfl⟩
   have HC : Hid (cs = (List.map (Value.int .u8) S)) := hcs
   rw [← hcs] at hlen' hone hi ⊢
   clear hcs
   have hth := HD.out
   go_wp2_with (refine wpList_store_mid rfl 30 (.tmp 2) (.tmp 18) rfl q2 0 cs.toArray rfl rfl (by simpa [hlen'] using hth) (by simpa using hi) (all_oneCell_toArray hone) ?_)
   have HR2 : Hid ((V.setCells q2 0 cs).rangeAt q2 0 cs) := World.rangeAt_setCells_same _ _ _ _ (by rw [hlen']; exact hth)
   have hld := run_loadVar_mid (P := Tryz.prog) _ _ 0 30 _ _ HR2.out Tryz.underlying30 rfl hi
   exact bodyPost_ret (v := .agg cs.toArray) (by simp [results, Tryz.results83]; exact hld) rfl ⟨S, by rw [HC.out], HS, below_setCells _ (by have := HQ.out; omega) _ _ _ HB.out⟩
end Go.Proofs.YtlnbjehimabaiaaGreatDoor
/-
 Texts of digits, two to a byte. No statement of the seat is proved here.
-/
namespace Go.Proofs.YtlnbjehimabaiaaGreatDoor
open Go.RowKit
set_option maxRecDepth 8000

def sd (s : ByteArray) : List Int := s.data.toList.map (fun u => (u.toNat : Int))
theorem idx_str (s : ByteArray) (j : Nat) (h : j < s.size) (w : World) : Sem.run Tryz.prog (Instr.index 9 (.string s) (.int .i64 (j : Int))) w = .ok (.int .u8 (sd s)[j]!) w := by
 rw [run_index_string (P := Tryz.prog) _ _ s _ _ Tryz.underlying9, dif_pos ⟨by omega, by omega⟩]
 have e : (sd s)[j]? = some ((s.data[j]'h).toNat : Int) := by
  unfold sd
  rw [List.getElem?_map, Array.getElem?_toList, Array.getElem?_eq_getElem h]
  rfl
 have e2 : (sd s)[j]! = ((s.data[j]'h).toNat : Int) := by rw [List.getElem!_eq_getElem?_getD, e]; rfl
 rw [e2]
 rfl
/-- A digit. -/
def dv (c : Int) : Int := if 97 ≤ c then c - 87 else c - 48
def okd (c : Int) : Bool := (decide (48 ≤ c) && decide (c ≤ 57)) || (decide (97 ≤ c) && decide (c ≤ 102))
def hxl (d : List Int) : Nat → List Int
 | 0 => []
 | i + 1 => hxl d i ++ [16 * dv d[2 * i]! + dv d[2 * i + 1]!]
theorem hxl_len (d : List Int) : ∀ i, (hxl d i).length = i
 | 0 => rfl
 | i + 1 => by rw [hxl, List.length_append, hxl_len d i]; rfl
theorem okd_dv {c : Int} (h : okd c = true) : 0 ≤ dv c ∧ dv c ≤ 15 ∧ 48 ≤ c ∧ c ≤ 102 ∧ (97 ≤ c → dv c = c - 87) ∧ (¬ 97 ≤ c → dv c = c - 48) := by
 unfold okd at h
 simp only [Bool.or_eq_true, Bool.and_eq_true, decide_eq_true_eq] at h
 unfold dv
 split <;> omega
theorem okd_at {d : List Int} (h : d.all okd = true) {j : Nat} (hj : j < d.length) : okd d[j]! = true := by
 rw [getElem!_pos d j hj]
 exact List.all_eq_true.1 h _ (List.getElem_mem hj)
theorem hxl_byt {d : List Int} (h : d.all okd = true) : ∀ i, 2 * i ≤ d.length → Byt (hxl d i)
 | 0, _ => Byt.nil
 | i + 1, hi => by
  have h0 := okd_dv (okd_at h (j := 2 * i) (by omega))
  have h1 := okd_dv (okd_at h (j := 2 * i + 1) (by omega))
  rw [hxl]
  exact (hxl_byt h i (by omega)).app (Byt.cons (by omega) (by omega) Byt.nil)
end Go.Proofs.YtlnbjehimabaiaaGreatDoor
/-
 Rows of constant texts, in whatever world: what the mark that such a row gets leaves as it is. No statement of the seat is proved here.
-/
namespace Go.Proofs.YtlnbjehimabaiaaGreatDoor
open Go.RowKit
set_option maxRecDepth 8000

theorem frz_cell (u : World) (p : Addr) (n : Nat) (a : Addr) : (u.freeze p n).cell? a = u.cell? a := by
 unfold World.freeze
 split
 ·rfl
 ·unfold World.cell?
  simp only [Array.getElem?_modify]
  by_cases h : p.block = a.block
  ·rw [if_pos h]
   cases hc : u.heap[a.block]? with
   | none => rfl
   | some o => cases o <;> rfl
  ·rw [if_neg h]
theorem Rd.frz {u : World} {a : Option Addr} {len cap : Nat} {l : List Int} (h : Rd u a len cap l) (p : Addr) (n : Nat) : Rd (u.freeze p n) a len cap l :=
 ⟨h.hlen, h.hle, h.hnil, h.byt, fun h0 => by
  obtain ⟨b, off, ha, hc⟩ := h.cell h0
  exact ⟨b, off, ha, fun i hi => by rw [frz_cell]; exact hc i hi⟩⟩
theorem ext_frz {W u : World} (h : Ext W u) (b k : Nat) (hb : W.heap.size ≤ b) : Ext W (u.freeze ⟨b, k, none⟩ 1) := by
 refine Below.trans h ?_
 unfold World.freeze
 rw [if_neg (by decide)]
 exact ⟨rfl, rfl, rfl, by simp, fun i hi => by
  simp only [Array.getElem?_modify]
  rw [if_neg (by omega)]⟩
/-- A literal's row that bears no mark yet. -/
def Lt (u : World) (b : Nat) (l : List Int) : Prop := u.heap[b]? = some (.cells (List.map (Value.int .u8) l).toArray 5)
theorem Lt.lt {u : World} {b : Nat} {l : List Int} (h : Lt u b l) : b < u.heap.size := by
 unfold Lt at h
 exact (Array.getElem?_eq_some_iff.1 h).1
theorem Lt.later {u v : World} {b : Nat} {l : List Int} (h : Lt u b l) (hb : Below u.heap.size u v) : Lt v b l := by
 unfold Lt
 rw [hb.block b h.lt]
 exact h
theorem Lt.frz {u : World} {b : Nat} {l : List Int} (h : Lt u b l) (c k n : Nat) (hne : b ≠ c) : Lt (u.freeze ⟨c, k, none⟩ n) b l := by
 unfold Lt World.freeze
 split
 ·exact h
 ·simp only [Array.getElem?_modify]
  rw [if_neg (fun e => hne e.symm)]
  exact h
theorem lt_new (u : World) (l : List Int) : Lt (u.alloc (.cells (List.map (Value.int .u8) l).toArray 5)) u.heap.size l := heap_alloc_new u _
theorem Lt.rd {u : World} {b : Nat} {l : List Int} (h : Lt u b l) (hb : Byt l) (cap : Nat) (hc : l.length ≤ cap) : Rd u (some ⟨b, 0, none⟩) l.length cap l :=
 ⟨rfl, hc, (fun h => by cases h), hb, fun _ => ⟨b, 0, rfl, fun i hi => by
  rw [Nat.zero_add, cell_of_row _ _ _ _ _ _ h]
  simp [List.getElem?_eq_getElem hi]⟩⟩
theorem conv_mark (u : World) (b : Nat) (l : List Int) (n c : Nat) (h : Lt u b l) : (convert 25 25 (.slice (some ⟨b, 0, none⟩) n c)).run Tryz.prog u = .ok (.slice (some ⟨b, 0, none⟩) n c) (u.freeze ⟨b, l.length, none⟩ 1) := by
 have hsh : u.shape? b = some (5, l.length) := by
  unfold World.shape?
  rw [h]
  simp
 simp [convert, run_underlying (P := Tryz.prog) Tryz.underlying25, run_underlying (P := Tryz.prog) Tryz.underlying5, markStringish, hsh]
/-- A step that several ways come to, in several worlds. -/
theorem cut2 {F G : World → Nat → List Int → Prop} {β : Prop} (h : (∀ u x N, F u x N → G u x N) → β) (hr : ∀ u x N, F u x N → G u x N) : β := h hr
theorem cut3 {F G : World → Nat → Nat → List Int → Prop} {β : Prop} (h : (∀ u x y N, F u x y N → G u x y N) → β) (hr : ∀ u x y N, F u x y N → G u x y N) : β := h hr
/-- 'make' of so many bytes, in whatever world. -/
theorem make_l (u : World) (k : Nat) (hk : k ≤ 281474976710656) : ∃ V, (Instr.makeSlice 25 (.int .i64 (k : Int)) (.int .i64 (k : Int))).run Tryz.prog u = .ok (.slice (some ⟨u.heap.size, 0, none⟩) k k) V ∧ Ow V u.heap.size k (List.replicate k 0) ∧ Below u.heap.size u V := by
 obtain ⟨i0, hi, hz0, hz1, hz2⟩ := info_parts info5
 obtain ⟨V, hr, ho, hg⟩ := run_make_full (P := Tryz.prog) u u.heap.size 25 5 i0 (.int .u8 0) 1 Tryz.underlying25 hi hz0 hz1 .i64 .i64 k (by rw [hz2]; omega) (by unfold maxLen; omega) (Nat.le_refl _)
 rw [made_zero] at ho
 exact ⟨V, hr, ⟨⟨_, ho⟩, byt_zero k⟩, (Below.refl _ _).grown hg (Nat.le_refl _) (fun k h => by cases h)⟩
end Go.Proofs.YtlnbjehimabaiaaGreatDoor
/-
 Strings as bytes: '[]byte(s)' and a copy of a string's bytes. No statement of the seat is proved here.
-/
namespace Go.Proofs.YtlnbjehimabaiaaGreatDoor
open Go.RowKit
set_option maxRecDepth 8000

theorem sd_byt (s : ByteArray) : Byt (sd s) := fun x hx => by
 unfold sd at hx
 obtain ⟨u, _, rfl⟩ := List.mem_map.1 hx
 have := u.toNat_lt
 constructor <;> omega
theorem sd_len (s : ByteArray) : (sd s).length = s.size := by
 unfold sd
 rw [List.length_map, Array.length_toList]
 rfl
theorem sd_str {l : List Int} (h : Byt l) : sd (strOfNums l) = l := by
 unfold sd
 rw [strOfNums_data, List.map_map]
 conv => rhs; rw [← List.map_id l]
 apply List.map_congr_left
 intro x hx
 obtain ⟨h0, h1⟩ := h x hx
 show ((UInt8.ofNat x.toNat).toNat : Int) = x
 have : x.toNat < 256 := by omega
 have e : (UInt8.ofNat x.toNat).toNat = x.toNat := by rw [UInt8.toNat_ofNat']; exact Nat.mod_eq_of_lt this
 rw [e]
 omega
theorem sd_cells (s : ByteArray) : (s.data.toList.map fun x => Value.int .u8 (x.toNat : Int)) = List.map (Value.int .u8) (sd s) := by
 unfold sd
 rw [List.map_map]
 rfl
/-- '[]byte(s)'. -/
theorem conv_str (s : ByteArray) (w : World) : ∃ c V, (convert 9 25 (.string s)).run Tryz.prog w = .ok (.slice (some ⟨w.heap.size, 0, none⟩) s.size c) V ∧ Rd V (some ⟨w.heap.size, 0, none⟩) s.size c (sd s) ∧ Below w.heap.size w V := by
 refine ⟨_, _, Lib.run_convert_string_bytes (P := Tryz.prog) w 9 25 5 s Tryz.underlying9 Tryz.underlying25 Tryz.underlying5, ⟨sd_len s, ?_, (fun e => by cases e), sd_byt s, fun _ => ⟨w.heap.size, 0, rfl, fun j hj => ?_⟩⟩, ?_⟩
 ·exact grownCap_ge _ _ _ _
 ·rw [Nat.zero_add, Lib.bytesWorld_cell w 5 s j hj]
  have hj2 : j < s.data.toList.length := by rw [Array.length_toList]; exact hj
  have e : (sd s)[j]? = some ((s.data.toList[j]'hj2).toNat : Int) := by
   unfold sd
   rw [List.getElem?_map, List.getElem?_eq_getElem hj2]
   rfl
  rw [e, List.getD_eq_getElem?_getD, List.getElem?_eq_getElem hj2]
  rfl
 ·unfold Lib.bytesWorld
  exact ext_frz ((Ext.refl w).drew.trans (bel1 w.drew _)) _ _ (Nat.le_refl _)
/-- 'copy' of a string's bytes, all of which have room. -/
theorem copy_str (u : World) (b o dl dc : Nat) (s : ByteArray) (hs : s.size ≤ dl) (ht : u.there b o s.size) (ty : TypeId) :
  Sem.run Tryz.prog (Builtin.copy_ #[25, 9] ty #[.slice (some ⟨b, o, none⟩) dl dc, .string s]) u = .ok (goInt s.size) (u.setCells b o (List.map (Value.int .u8) (sd s))) := by
 have := run_copy_string (P := Tryz.prog) u 25 9 ty 5 b o dl dc s Tryz.underlying25 (fun w => by first | exact run_sizeOf_one w | rfl | kernel_rfl) hs (fun j hj => by obtain ⟨v, h1⟩ := Option.isSome_iff_exists.1 (ht j hj).1; rw [h1]; rfl) (fun j hj => (ht j hj).2)
 rw [sd_cells] at this
 exact this
end Go.Proofs.YtlnbjehimabaiaaGreatDoor
/-
 What cipher's New and a State's Init, Has, Nonce, SetNonce, Key, Copy do. No statement of the seat is proved here.
-/
namespace Go.Proofs.YtlnbjehimabaiaaGreatDoor
open Go.RowKit
set_option maxRecDepth 8000

theorem cons_of {l : List Int} {n : Nat} (h : l.length = n + 1) : ∃ a r, l = a :: r ∧ r.length = n := by
 cases l with
 | nil => simp at h
 | cons a r => exact ⟨a, r, rfl, by simpa using h⟩
/-- A State that is written out: its key and has. -/
theorem build_init {l0 : List Int} (h0 : l0.length = 32) (w : World) : Sem.run Tryz.prog (Instr.build 64 #[(0, .agg (List.map (Value.int .u8) l0).toArray), (1, .bool true)]) w = .ok (.agg (sc9 l0 true 0).toArray) w := by
 obtain ⟨a0, l1, rfl, h1⟩ := cons_of h0
 obtain ⟨a1, l2, rfl, h2⟩ := cons_of h1
 obtain ⟨a2, l3, rfl, h3⟩ := cons_of h2
 obtain ⟨a3, l4, rfl, h4⟩ := cons_of h3
 obtain ⟨a4, l5, rfl, h5⟩ := cons_of h4
 obtain ⟨a5, l6, rfl, h6⟩ := cons_of h5
 obtain ⟨a6, l7, rfl, h7⟩ := cons_of h6
 obtain ⟨a7, l8, rfl, h8⟩ := cons_of h7
 obtain ⟨a8, l9, rfl, h9⟩ := cons_of h8
 obtain ⟨a9, l10, rfl, h10⟩ := cons_of h9
 obtain ⟨a10, l11, rfl, h11⟩ := cons_of h10
 obtain ⟨a11, l12, rfl, h12⟩ := cons_of h11
 obtain ⟨a12, l13, rfl, h13⟩ := cons_of h12
 obtain ⟨a13, l14, rfl, h14⟩ := cons_of h13
 obtain ⟨a14, l15, rfl, h15⟩ := cons_of h14
 obtain ⟨a15, l16, rfl, h16⟩ := cons_of h15
 obtain ⟨a16, l17, rfl, h17⟩ := cons_of h16
 obtain ⟨a17, l18, rfl, h18⟩ := cons_of h17
 obtain ⟨a18, l19, rfl, h19⟩ := cons_of h18
 obtain ⟨a19, l20, rfl, h20⟩ := cons_of h19
 obtain ⟨a20, l21, rfl, h21⟩ := cons_of h20
 obtain ⟨a21, l22, rfl, h22⟩ := cons_of h21
 obtain ⟨a22, l23, rfl, h23⟩ := cons_of h22
 obtain ⟨a23, l24, rfl, h24⟩ := cons_of h23
 obtain ⟨a24, l25, rfl, h25⟩ := cons_of h24
 obtain ⟨a25, l26, rfl, h26⟩ := cons_of h25
 obtain ⟨a26, l27, rfl, h27⟩ := cons_of h26
 obtain ⟨a27, l28, rfl, h28⟩ := cons_of h27
 obtain ⟨a28, l29, rfl, h29⟩ := cons_of h28
 obtain ⟨a29, l30, rfl, h30⟩ := cons_of h29
 obtain ⟨a30, l31, rfl, h31⟩ := cons_of h30
 obtain ⟨a31, l32, rfl, h32⟩ := cons_of h31
 obtain rfl := List.eq_nil_of_length_eq_zero h32
 kernel_rfl
theorem build_none (w : World) : Sem.run Tryz.prog (Instr.build 64 #[]) w = .ok (.agg (sc9 z9l false 0).toArray) w := by kernel_rfl
theorem new9_c (w : World) :
  Calls Tryz.prog 117 #[] w fun e w' => e = .returned (.pointer (some ⟨w.heap.size, 0, none⟩)) ∧ Hid (Sx w' w.heap.size z9l false 0) ∧ Below w.heap.size w w' := by
 go_enter Tryz.func117, Tryz.ntmps117
 go_wp2
 go_ret
 exact ⟨rfl, sx_new w z9l false 0 z9l_bn (by decide) _, bel1 _ _⟩
theorem has9_c (b : Nat) (k : List Int) (h : Bool) (n : Int) (w : World) (hs : Sx w b k h n) :
  Calls Tryz.prog 157 #[.pointer (some ⟨b, 0, none⟩)] w fun e w' => e = .returned (.bool h) ∧ w' = w := by
 obtain ⟨ch, -⟩ := hs.has
 go_enter Tryz.func157, Tryz.ntmps157
 go_wp2
 go_ret
 exact ⟨rfl, rfl⟩
theorem key9_c (b : Nat) (k : List Int) (h : Bool) (n : Int) (w : World) (hs : Sx w b k h n) :
  Calls Tryz.prog 26 #[.pointer (some ⟨b, 0, none⟩)] w fun e w' => e = .returned (.agg (List.map (Value.int .u8) k).toArray) ∧ Below w.heap.size w w' := by
 have HS : Hid (Sx w b k h n) := hs
 clear hs
 go_enter Tryz.func26, Tryz.ntmps26
 go_upto_region 1 with fail
 have HD : Hid ((w.alloc (.cells zb32 30)).there w.heap.size 0 32) := by unfold Hid; exact there_new _ 32 _ rfl _
 have HB : Hid (Below w.heap.size w (w.alloc (.cells zb32 30))) := bel1 _ _
 obtain ⟨W0, hW0⟩ : ∃ W, W = (w.alloc (.cells zb32 30)) := ⟨_, rfl⟩
 obtain ⟨q2, hq2⟩ : ∃ q, q = w.heap.size := ⟨_, rfl⟩
 rw [← hW0] at HD HB ⊢
 have HQ : Hid (q2 = w.heap.size) := hq2
 rw [← hq2] at HD ⊢
 clear hW0 hq2
 replace HS := hidp (HS.out.later HB.out)
 obtain ⟨hlen', hone, hi⟩ := bn32_cells HS.out.bk
 have hR := HS.out.key
 obtain ⟨cs, hcs⟩ : ∃ cs, cs = (List.map (Value.int .u8) k) := ⟨_, rfl⟩
 have HC : Hid (cs = (List.map (Value.int .u8) k)) := hcs
 rw [← hcs] at hlen' hone hi hR
 clear hcs
 have hth := HD.out
 go_wp2_with (first
  | (refine wpList_load_mid rfl 30 (.tmp 5) rfl b 0 rfl cs _ hR Tryz.underlying30 rfl hi ?_)
  | (refine wpList_store_mid rfl 30 (.tmp 2) (.tmp 6) rfl q2 0 cs.toArray rfl rfl (by simpa [hlen'] using hth) (by simpa using hi) (all_oneCell_toArray hone) ?_))
 have HR2 : Hid ((W0.setCells q2 0 cs).rangeAt q2 0 cs) := World.rangeAt_setCells_same _ _ _ _ (by rw [hlen']; exact hth)
 have hld := run_loadVar_mid (P := Tryz.prog) _ _ 0 30 _ _ HR2.out Tryz.underlying30 rfl hi
 exact bodyPost_ret (v := .agg cs.toArray) (by simp [results, Tryz.results26]; exact hld) rfl ⟨by rw [HC.out], below_setCells _ (by have := HQ.out; omega) _ _ _ HB.out⟩

theorem wpList_build9 {ops : Array Oper} {rest : List Oper} {o : Oper} {a : Act} {w : World} {Q : Exit → Act → World → Prop} (hgd : o.guard = none) (ho : o.op = Op.build 64 #[(0, .tmp 5), (1, .const (.bool true))]) (x v : Value) (hx : a.eval (.tmp 5) = x)
  (hr : Sem.run Tryz.prog (Instr.build 64 #[(0, x), (1, .bool true)]) w = .ok v w) (h : wpList Tryz.prog ops Q rest (a.put o.dst v) w) : wpList Tryz.prog ops Q (o :: rest) a w := by
 refine wpList_plain hgd fun K hK => ?_
 have e : (execOp a.eval o).run Tryz.prog w = .ok (.value v) w := by
  unfold execOp
  rw [ho]
  have e1 : Array.map (fun x : Nat × Operand => match x with | (i, x) => (i, a.eval x)) #[(0, Operand.tmp 5), (1, Operand.const (Value.bool true))] = #[(0, x), (1, .bool true)] := by
   rw [← hx]
   simp [Act.eval]
  show Sem.run Tryz.prog (do let r ← Instr.build 64 (Array.map (fun x : Nat × Operand => match x with | (i, x) => (i, a.eval x)) #[(0, Operand.tmp 5), (1, Operand.const (Value.bool true))]); pure (Next.value r)) w = _
  rw [e1, Sem.run_bind, hr]
  rfl
 unfold Oper.wp
 rw [e]
 exact hK _ _ h
set_option maxHeartbeats 2000000 in
theorem init9_c (b : Nat) (k : List Int) (h : Bool) (n : Int) (key : List Int) (hk : Bn 32 key) (w : World) (hs : Sx w b k h n) :
  Calls Tryz.prog 118 #[.pointer (some ⟨b, 0, none⟩), (.agg (List.map (Value.int .u8) key).toArray)] w fun e w' => e = .returned (.tuple #[]) ∧ Hid (Sx w' b key true 0) ∧ ExtB b w w' := by
 have HS : Hid (Sx w b k h n) := hs
 have HK : Hid (Bn 32 key) := hk
 clear hs hk
 go_enter Tryz.func118, Tryz.ntmps118
 go_upto_region 1 with fail
 have AK : Hid (Ar (w.alloc (.cells (List.map (Value.int .u8) key).toArray 30)) w.heap.size 32 (List.map (Value.int .u8) key)) := ar_box w _ 32 HK.out.map_len _
 have HB : Hid (Below w.heap.size w (w.alloc (.cells (List.map (Value.int .u8) key).toArray 30))) := bel1 _ _
 have HE : Hid (ExtB b w (w.alloc (.cells (List.map (Value.int .u8) key).toArray 30))) := (ExtB.refl b w).alloc _
 obtain ⟨W0, hW0⟩ : ∃ W, W = (w.alloc (.cells (List.map (Value.int .u8) key).toArray 30)) := ⟨_, rfl⟩
 obtain ⟨q3, hq3⟩ : ∃ q, q = w.heap.size := ⟨_, rfl⟩
 rw [← hW0] at AK HB HE ⊢
 rw [← hq3] at AK ⊢
 clear hW0 hq3
 replace HS := hidp (HS.out.later HB.out)
 obtain ⟨_, _, hi⟩ := bn32_cells HK.out
 obtain ⟨hlen', hone, hic⟩ := sc9_cells true 0 HK.out
 have hb9 := build_init HK.out.len W0
 have hth := HS.out.ar.all
 obtain ⟨cs, hcs⟩ : ∃ cs, cs = (sc9 key true 0) := ⟨_, rfl⟩
 have HC : Hid (cs = (sc9 key true 0)) := hcs
 rw [← hcs] at hlen' hone hic hb9
 clear hcs
 go_wp2_with (first
  | (refine wpList_load_mid rfl 30 (.tmp 3) rfl q3 0 rfl (List.map (Value.int .u8) key) _ AK.out.rng Tryz.underlying30 rfl hi ?_)
  | (refine wpList_build9 rfl rfl (.agg (List.map (Value.int .u8) key).toArray) (.agg cs.toArray) rfl hb9 ?_)
  | (refine wpList_store_mid rfl 64 (.tmp 7) (.tmp 6) rfl b 0 cs.toArray rfl rfl (by simpa [hlen'] using hth) (by simpa using hic) (all_oneCell_toArray hone) ?_))
 go_end0
 exact ⟨rfl, by rw [HC.out]; exact HS.out.setAll HK.out true (by decide), HE.out.comp (extB_setCells _ _ _ (ExtB.refl b _))⟩
end Go.Proofs.YtlnbjehimabaiaaGreatDoor
