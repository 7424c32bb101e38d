/-
  What the reference's Seal does. No statement of the seat is proved here.
-/
import Derived.Test.YtjmdgmbkkkoamaaDoorR6T
namespace Go.Proofs.YtjmdgmbkkkoamaaDoor
open Go.RowKit

set_option maxRecDepth 8000 in
theorem cutv {F G : World → Value → Nat → Nat → List Int → Prop} {β : Prop} (h : (∀ u v y x N, F u v y x N → G u v y x N) → β) (hr : ∀ u v y x N, F u v y x N → G u v y x N) : β := h hr
set_option maxRecDepth 8000 in
set_option maxHeartbeats 8000000 in
theorem rseal_c (key nonce : List Int) (aa : Option Addr) (la ca : Nat) (ad : List Int) (at' : Option Addr) (lt ct : Nat) (text : List Int) (hk : Bn 32 key) (hn : Bn 12 nonce) (w : World) (hra : Rd w aa la ca ad) (hrt : Rd w at' lt ct text) (hg : Gr w) (hm : la + lt + 46 ≤ 2097152) :
    Calls Tryd.prog 21 #[(.agg (List.map (Value.int .u8) key).toArray), (.agg (List.map (Value.int .u8) nonce).toArray), .slice aa la ca, .slice at' lt ct] w fun e w' => ∃ a' m c' X, e = .returned (.slice a' m c') ∧ Hid (m = lt + 16) ∧ Hid (X = se6 key nonce ad text) ∧ Hid (w'.ownsRow w.heap.size 5 1 (.slice a' m c') m (List.map (Value.int .u8) X)) ∧ Below w.heap.size w w' := by
  have HRA : Hid (Rd w aa la ca ad) := hra
  have HRT : Hid (Rd w at' lt ct text) := hrt
  have HG : Hid (Gr w) := hg
  clear hra hrt hg
  have HK : Hid (Bn 32 key) := hk
  have HN : Hid (Bn 12 nonce) := hn
  clear hk hn
  obtain ⟨_, _, hiK⟩ := bn32_cells HK.out
  obtain ⟨_, _, hiN⟩ := bn12_cells HN.out
  go_enter Tryd.func21, Tryd.ntmps21
  go_upto_region 1 with fail
  have AK : Hid (Ar ((w.alloc (.cells (List.map (Value.int .u8) key).toArray 27)).alloc (.cells (List.map (Value.int .u8) nonce).toArray 48)) w.heap.size 32 (List.map (Value.int .u8) key)) := (ar_box w _ 32 HK.out.map_len _).later (bel1 _ _)
  have AN : Hid (Ar ((w.alloc (.cells (List.map (Value.int .u8) key).toArray 27)).alloc (.cells (List.map (Value.int .u8) nonce).toArray 48)) (w.heap.size + 1) 12 (List.map (Value.int .u8) nonce)) := by have := (ar_box (w.alloc (.cells (List.map (Value.int .u8) key).toArray 27)) _ 12 HN.out.map_len 48); simpa [Hid] using this
  have HB : Hid (Below w.heap.size w ((w.alloc (.cells (List.map (Value.int .u8) key).toArray 27)).alloc (.cells (List.map (Value.int .u8) nonce).toArray 48))) := bel2 _ _ _
  generalize ((w.alloc (.cells (List.map (Value.int .u8) key).toArray 27)).alloc (.cells (List.map (Value.int .u8) nonce).toArray 48)) = W0 at *
  have k1 : w.heap.size < w.heap.size + 1 := by omega
  generalize hq1 : w.heap.size + 1 = q1 at *
  replace HRA : Hid (Rd W0 aa la ca ad) := HRA.out.below HB.out
  replace HRT : Hid (Rd W0 at' lt ct text) := HRT.out.below HB.out
  replace HG : Hid (Gr W0) := HG.out.later HB.out
  go_wp2_with (first
  | (refine wpList_load_mid rfl 27 (.tmp 4) rfl w.heap.size 0 rfl (List.map (Value.int .u8) key) _ AK.out.rng Tryd.underlying27 rfl hiK ?_)
  | (refine wpList_load_mid rfl 48 (.tmp 5) rfl q1 0 rfl (List.map (Value.int .u8) nonce) _ AN.out.rng Tryd.underlying48 rfl hiN ?_))
  refine (rapply_c key 1 nonce at' lt ct text HK.out ⟨by decide, by decide⟩ HN.out _ HRT.out (by omega) HG.out).mono ?_
  rintro e V ⟨a2, c2, H, rfl, HH, HRH, hb⟩
  clear HRT
  replace AK : Hid (Ar V w.heap.size 32 (List.map (Value.int .u8) key)) := AK.out.later hb
  replace AN : Hid (Ar V q1 12 (List.map (Value.int .u8) nonce)) := AN.out.later hb
  replace HRA : Hid (Rd V aa la ca ad) := HRA.out.below hb
  replace HG : Hid (Gr V) := HG.out.later hb
  replace HB : Hid (Below w.heap.size w V) := HB.out.trans (hb.mono HB.out.size)
  clear hb
  have hbV : w.heap.size ≤ V.heap.size := HB.out.size
  go_upto_region 2 with fail
  refine wp_region_noPanic ?_
  refine wp_region_held_drew (S := Ext V) (by kernel_rfl) (Ext.refl _).drew (fun hH => ?_)
  change wpAnyH _ _ _ _ _ _ #[false, false, false, false, false, false, false, false, false, false] _ _
  refine wpAnyH_take (i := 1) (oi := ?o1s) (v := ?v1s) ?h1s (by kernel_rfl) ?f1s ?r1s (fun _ _ _ h => h) (Or.inl ⟨?w1s, ?y1s⟩) (by assumption) ?t1s
  case h1s => simp only [List.getElem?_toArray]; rfl
  case f1s => kernel_rfl
  case r1s => kernel_rfl
  case w1s => rfl
  case y1s => (intro u hu; (go_simp) <;> with_reducible rfl)
  try simp only [Act.put, List.setIfInBounds_toArray, List.set_cons_zero, List.set_cons_succ]
  refine wpAnyH_take (i := 3) (oi := ?o3s) (v := .agg (List.map (Value.int .u8) key).toArray) ?h3s (by kernel_rfl) ?f3s ?r3s (fun _ _ _ h => h) ?y3s (by assumption) ?t3s
  case h3s => simp only [List.getElem?_toArray]; rfl
  case f3s => kernel_rfl
  case r3s => kernel_rfl
  case y3s => exact yieldsIf_load_mid (by rfl) 27 (.tmp 4) rfl w.heap.size 0 rfl (List.map (Value.int .u8) key) _ (fun u hu => range_later hu AK.out.rng) Tryd.underlying27 rfl hiK
  try simp only [Act.put, List.setIfInBounds_toArray, List.set_cons_zero, List.set_cons_succ]
  refine wpAnyH_take (i := 4) (oi := ?o4s) (v := .agg (List.map (Value.int .u8) nonce).toArray) ?h4s (by kernel_rfl) ?f4s ?r4s (fun _ _ _ h => h) ?y4s (by assumption) ?t4s
  case h4s => simp only [List.getElem?_toArray]; rfl
  case f4s => kernel_rfl
  case r4s => kernel_rfl
  case y4s => exact yieldsIf_load_mid (by rfl) 48 (.tmp 5) rfl q1 0 rfl (List.map (Value.int .u8) nonce) _ (fun u hu => range_later hu AN.out.rng) Tryd.underlying48 rfl hiN
  try simp only [Act.put, List.setIfInBounds_toArray, List.set_cons_zero, List.set_cons_succ]
  refine wpAnyH_take (i := 5) (oi := ?o5s) (v := ?v5s) ?h5s (by kernel_rfl) ?f5s ?r5s (fun _ _ _ h => h) (Or.inl ⟨?w5s, ?y5s⟩) (by assumption) ?t5s
  case h5s => simp only [List.getElem?_toArray]; rfl
  case f5s => kernel_rfl
  case r5s => kernel_rfl
  case w5s => rfl
  case y5s => (intro u hu; (go_simp) <;> with_reducible rfl)
  try simp only [Act.put, List.setIfInBounds_toArray, List.set_cons_zero, List.set_cons_succ]
  refine wpAnyH_take (i := 6) (oi := ?o6s) (v := ?v6s) ?h6s (by kernel_rfl) ?f6s ?r6s (fun _ _ _ h => h) (Or.inl ⟨?w6s, ?y6s⟩) (by assumption) ?t6s
  case h6s => simp only [List.getElem?_toArray]; rfl
  case f6s => kernel_rfl
  case r6s => kernel_rfl
  case w6s => rfl
  case y6s => (intro u hu; (go_simp) <;> with_reducible rfl)
  try simp only [Act.put, List.setIfInBounds_toArray, List.set_cons_zero, List.set_cons_succ]
  generalize V.drew = y0 at *
  revert hH
  apply cutv (F := fun u v _ x N => Hid (Ext V u) ∧ Hid (u.ownsRow V.heap.size 5 1 v lt (List.map (Value.int .u8) H)) ∧ Hid (Rd u (some ⟨x, 0, none⟩) 16 16 N) ∧ Hid (N = tt6 key nonce ad H))
  case h =>
    intro hrest hH
    refine wpAnyH_ready (rs := [0]) (by kernel_rfl) (by simp) ?_
    refine AllReadyH.cons (o := ?or2) ?hr2 (fun K hK => ?sr2) AllReadyH.nil
    case hr2 => simp only [List.getElem?_toArray]; rfl
    case sr2 =>
      go_simp
      have hb := bel1 y0 (.cells #[] 5)
      have OL : Hid ((y0.alloc (.cells #[] 5)).ownsRow V.heap.size 5 1 (.slice (some ⟨y0.heap.size, 0, none⟩) 0 0) 0 (List.map (Value.int .u8) [])) := World.ownsRow_made y0 #[] 0 hH.size (by decide) rfl
      refine hK.out _ _ (hH.trans hb) (fun hH' => ?_)
      clear hK K hH
      have hH := hH'
      clear hH'
      try simp only [List.setIfInBounds_toArray, List.set]
      obtain ⟨x4, hnew⟩ : ∃ v, v = (y0.alloc (.cells #[] 5)) := ⟨_, rfl⟩
      obtain ⟨g0, hg0⟩ : ∃ v, v = y0.heap.size := ⟨_, rfl⟩
      rw [← hnew] at hb OL hH ⊢
      rw [← hg0] at OL ⊢
      have hl0 : g0 < x4.heap.size := (OL.out.lt g0 (by simp [Value.ownBlock])).2
      clear hb hnew hg0
      refine wpAnyH_ready (rs := [2]) (by kernel_rfl) (by simp) ?_
      refine AllReadyH.cons (o := ?or5) ?hr5 (fun K hK => ?sr5) AllReadyH.nil
      case hr5 => simp only [List.getElem?_toArray]; rfl
      case sr5 =>
        obtain ⟨v16, x7, hrun, hown, hgb, hbel⟩ := app_l x4 V.heap.size (.slice (some ⟨g0, 0, none⟩) 0 0) 0 [] a2 lt c2 H OL.out (HRH.out.below hH) (by omega) hH.size 31
        refine step_append_run rfl (.tmp 14) (.tmp 15) 31 rfl _ _ rfl rfl _ _ hrun ?_
        have OA : Hid (x7.ownsRow V.heap.size 5 1 v16 lt (List.map (Value.int .u8) H)) := by unfold Hid; simpa using hown
        refine hK.out _ _ (Below.trans hH hbel) (fun hH' => ?_)
        clear hK K hH
        have hH := hH'
        clear hH'
        try simp only [List.setIfInBounds_toArray, List.set]
        try simp only [Act.put, List.setIfInBounds_toArray, List.set_cons_zero, List.set_cons_succ]
        clear hrun hown hgb hbel OL
        refine wpAnyH_ready (rs := [7]) (by kernel_rfl) (by simp) ?_
        refine AllReadyH.cons (o := ?or8) ?hr8 (fun K hK => ?sr8) AllReadyH.nil
        case hr8 => simp only [List.getElem?_toArray]; rfl
        case sr8 =>
          go_simp
          refine (rtagof_c key nonce aa la ca ad a2 lt c2 H HK.out HN.out _ (HRA.out.below hH) (HRH.out.below hH) (HG.out.later hH) (by omega)).mono ?_
          rintro e V10 ⟨gT, TG, rfl, HTG, RT, hgT0, hb⟩
          refine hK.out _ _ (hH.trans hb) (fun hH' => ?_)
          clear hK K hH
          have hH := hH'
          clear hH'
          try simp only [List.setIfInBounds_toArray, List.set]
          replace OA : Hid (V10.ownsRow V.heap.size 5 1 v16 lt (List.map (Value.int .u8) H)) := own_later OA.out hb
          clear hb hgT0
          exact hrest V10 v16 g0 gT TG ⟨hH, OA, RT, HTG⟩
  case hr =>
    rintro Y v16 g0 gT TG ⟨hE, OA, RT, HTG⟩
    have hH := hE.out
    clear hE
    obtain ⟨v22, Y2, hrun, hown, hgb, hbel⟩ := app_l Y V.heap.size v16 lt H (some ⟨gT, 0, none⟩) 16 16 TG OA.out RT.out (by omega) hH.size 31
    refine wpAnyH_ready (rs := [8]) (by kernel_rfl) (by simp) ?_
    refine AllReadyH.cons (o := ?or1) ?hr1 (fun K hK => ?_) AllReadyH.nil
    case hr1 => simp only [List.getElem?_toArray]; rfl
    refine step_append_run rfl (.tmp 16) (.tmp 21) 31 rfl _ _ rfl rfl _ _ hrun ?_
    refine hK.out _ _ (Below.trans hH hbel) (fun hH' => ?_)
    clear hK K hH
    have hH := hH'
    clear hH'
    try simp only [List.setIfInBounds_toArray, List.set]
    refine wpAnyH_take (i := 9) (oi := ?o9z) (v := ?v9z) ?h9z (by kernel_rfl) ?f9z ?r9z (fun _ _ _ h => h) (Or.inl ⟨?w9z, ?y9z⟩) (by assumption) ?t9z
    case h9z => simp only [List.getElem?_toArray]; rfl
    case f9z => kernel_rfl
    case r9z => kernel_rfl
    case w9z => rfl
    case y9z => (intro u hu; (go_simp) <;> with_reducible rfl)
    try simp only [Act.put, List.setIfInBounds_toArray, List.set_cons_zero, List.set_cons_succ]
    refine wpAnyH_done (by kernel_rfl) ?_ _
    refine NoPanic.normal ?_
    replace HB : Hid (Below w.heap.size w Y2) := HB.out.trans (Below.mono hH HB.out.size)
    have HOF : Hid (Y2.ownsRow w.heap.size 5 1 v22 (lt + 16) (List.map (Value.int .u8) (se6 key nonce ad text))) := by
      unfold Hid se6
      rw [← HH.out, ← HTG.out]
      exact owns_base (by simpa using hown) hbV
    clear hrun hown hgb hbel hH OA RT
    obtain ⟨a22, c22, rfl⟩ := owns_shape HOF.out
    go_wp2
    go_ret
    exact ⟨a22, lt + 16, c22, _, rfl, rfl, rfl, HOF, HB.out⟩
end Go.Proofs.YtjmdgmbkkkoamaaDoor
