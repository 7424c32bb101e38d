/-
  Several texts of one's own, laid together. No statement of the seat is proved here.
-/
import Derived.Test.YtjmdgmbkkkoamaaDoorPk11
import Derived.Lib.SlBytesConst
import Derived.Test.YtjmdgmbkkkoamaaDoorA6O
/-
  Rows of constant texts, in whatever world: what the mark that such a row gets leaves as it is. No statement of the seat is proved here.
-/
namespace Go.Proofs.YtjmdgmbkkkoamaaDoor
open Go.RowKit

set_option maxRecDepth 8000 in
theorem frz_cell (u : World) (p : Addr) (n : Nat) (a : Addr) : (u.freeze p n).cell? a = u.cell? a := by
  unfold World.freeze
  split
  · rfl
  · unfold World.cell?
    simp only [Array.getElem?_modify]
    by_cases h : p.block = a.block
    · rw [if_pos h]
      cases hc : u.heap[a.block]? with
      | none => rfl
      | some o => cases o <;> rfl
    · rw [if_neg h]
set_option maxRecDepth 8000 in
theorem Rd.frz {u : World} {a : Option Addr} {len cap : Nat} {l : List Int} (h : Rd u a len cap l) (p : Addr) (n : Nat) : Rd (u.freeze p n) a len cap l :=
  ⟨h.hlen, h.hle, h.hnil, h.byt, fun h0 => by
    obtain ⟨b, off, ha, hc⟩ := h.cell h0
    exact ⟨b, off, ha, fun i hi => by rw [frz_cell]; exact hc i hi⟩⟩
set_option maxRecDepth 8000 in
theorem ext_frz {W u : World} (h : Ext W u) (b k : Nat) (hb : W.heap.size ≤ b) : Ext W (u.freeze ⟨b, k, none⟩ 1) := by
  refine Below.trans h ?_
  unfold World.freeze
  rw [if_neg (by decide)]
  exact ⟨rfl, rfl, rfl, by simp, fun i hi => by
    simp only [Array.getElem?_modify]
    rw [if_neg (by omega)]⟩
/-- A literal's row that bears no mark yet. -/
def Lt (u : World) (b : Nat) (l : List Int) : Prop := u.heap[b]? = some (.cells (List.map (Value.int .u8) l).toArray 5)
set_option maxRecDepth 8000 in
theorem Lt.lt {u : World} {b : Nat} {l : List Int} (h : Lt u b l) : b < u.heap.size := by
  unfold Lt at h
  exact (Array.getElem?_eq_some_iff.1 h).1
set_option maxRecDepth 8000 in
theorem Lt.later {u v : World} {b : Nat} {l : List Int} (h : Lt u b l) (hb : Below u.heap.size u v) : Lt v b l := by
  unfold Lt
  rw [hb.block b h.lt]
  exact h
set_option maxRecDepth 8000 in
theorem Lt.frz {u : World} {b : Nat} {l : List Int} (h : Lt u b l) (c k n : Nat) (hne : b ≠ c) : Lt (u.freeze ⟨c, k, none⟩ n) b l := by
  unfold Lt World.freeze
  split
  · exact h
  · simp only [Array.getElem?_modify]
    rw [if_neg (fun e => hne e.symm)]
    exact h
set_option maxRecDepth 8000 in
theorem lt_new (u : World) (l : List Int) : Lt (u.alloc (.cells (List.map (Value.int .u8) l).toArray 5)) u.heap.size l := heap_alloc_new u _
set_option maxRecDepth 8000 in
theorem Lt.rd {u : World} {b : Nat} {l : List Int} (h : Lt u b l) (hb : Byt l) (cap : Nat) (hc : l.length ≤ cap) : Rd u (some ⟨b, 0, none⟩) l.length cap l :=
  ⟨rfl, hc, (fun h => by cases h), hb, fun _ => ⟨b, 0, rfl, fun i hi => by
    rw [Nat.zero_add, cell_of_row _ _ _ _ _ _ h]
    simp [List.getElem?_eq_getElem hi]⟩⟩
set_option maxRecDepth 8000 in
theorem conv_mark (u : World) (b : Nat) (l : List Int) (n c : Nat) (h : Lt u b l) : (convert 31 31 (.slice (some ⟨b, 0, none⟩) n c)).run Tryd.prog u = .ok (.slice (some ⟨b, 0, none⟩) n c) (u.freeze ⟨b, l.length, none⟩ 1) := by
  have hsh : u.shape? b = some (5, l.length) := by
    unfold World.shape?
    rw [h]
    simp
  simp [convert, run_underlying (P := Tryd.prog) Tryd.underlying31, run_underlying (P := Tryd.prog) Tryd.underlying5, markStringish, hsh]
set_option maxRecDepth 8000 in
/-- A step that several ways come to, in several worlds. -/
theorem cut2 {F G : World → Nat → List Int → Prop} {β : Prop} (h : (∀ u x N, F u x N → G u x N) → β) (hr : ∀ u x N, F u x N → G u x N) : β := h hr
set_option maxRecDepth 8000 in
theorem cut3 {F G : World → Nat → Nat → List Int → Prop} {β : Prop} (h : (∀ u x y N, F u x y N → G u x y N) → β) (hr : ∀ u x y N, F u x y N → G u x y N) : β := h hr
set_option maxRecDepth 8000 in
/-- 'make' of so many bytes, in whatever world. -/
theorem make_l (u : World) (k : Nat) (hk : k ≤ 281474976710656) : ∃ V, (Instr.makeSlice 31 (.int .i64 (k : Int)) (.int .i64 (k : Int))).run Tryd.prog u = .ok (.slice (some ⟨u.heap.size, 0, none⟩) k k) V ∧ Ow V u.heap.size k (List.replicate k 0) ∧ Below u.heap.size u V := by
  obtain ⟨i0, hi, hz0, hz1, hz2⟩ := info_parts info5
  obtain ⟨V, hr, ho, hg⟩ := run_make_full (P := Tryd.prog) u u.heap.size 31 5 i0 (.int .u8 0) 1 Tryd.underlying31 hi hz0 hz1 .i64 .i64 k (by rw [hz2]; omega) (by unfold maxLen; omega) (Nat.le_refl _)
  rw [made_zero] at ho
  exact ⟨V, hr, ⟨⟨_, ho⟩, byt_zero k⟩, (Below.refl _ _).grown hg (Nat.le_refl _) (fun k h => by cases h)⟩
end Go.Proofs.YtjmdgmbkkkoamaaDoor
/-
  What a State's Rekey does. No statement of the seat is proved here.
-/
namespace Go.Proofs.YtjmdgmbkkkoamaaDoor
open Go.RowKit

/-- The key behind a Rekey. -/
def rk9 (k : List Int) : List Int := (se6 k (nn6 18446744073709551615) [] (List.replicate 32 0)).take 32
set_option maxRecDepth 8000 in
theorem rk9_bn (k : List Int) : Bn 32 (rk9 k) := ⟨by unfold rk9; rw [List.length_take, se6_len, List.length_replicate]; decide, (se6_byt _ _ _ (byt_zero 32)).take 32⟩
set_option maxRecDepth 8000 in
set_option maxHeartbeats 2000000 in
theorem rekey9_none (b : Nat) (k : List Int) (n : Int) (w : World) (hs : Sx w b k false n) :
    Calls Tryd.prog 10 #[.pointer (some ⟨b, 0, none⟩)] w fun e w' => e = .returned (.int .i64 4) ∧ w' = w := by
  obtain ⟨ch, -⟩ := hs.has
  clear hs
  go_enter Tryd.func10, Tryd.ntmps10
  go_wp2
  go_ret
  exact ⟨rfl, rfl⟩
set_option maxRecDepth 8000 in
set_option maxHeartbeats 4000000 in
theorem rekey9_yes (b : Nat) (k : List Int) (n : Int) (w : World) (hs : Sx w b k true n) :
    Calls Tryd.prog 10 #[.pointer (some ⟨b, 0, none⟩)] w fun e w' => ∃ K, e = .returned (.int .i64 0) ∧ Hid (K = rk9 k) ∧ Hid (Sx w' b K true n) ∧ ExtB b w w' := by
  have HS : Hid (Sx w b k true n) := hs
  obtain ⟨ch, -⟩ := hs.has
  obtain ⟨_, _, hiK⟩ := bn32_cells hs.bk
  clear hs
  go_enter Tryd.func10, Tryd.ntmps10
  go_upto_region 3 with fail
  refine wp_region_noPanic ?_
  refine wp_region_held_drew (S := Ext w) (by kernel_rfl) (Ext.refl _).drew (fun hH => ?_)
  change wpAnyH _ _ _ _ _ _ #[false, false, false, false, false, false, false, false] _ _
  refine wpAnyH_take (i := 0) (oi := ?o0p) (v := ?v0p) ?h0p (by kernel_rfl) ?f0p ?r0p (fun _ _ _ h => h) (Or.inl ⟨?w0p, ?y0p⟩) (by assumption) ?t0p
  case h0p => simp only [List.getElem?_toArray]; rfl
  case f0p => kernel_rfl
  case r0p => kernel_rfl
  case w0p => rfl
  case y0p => (intro u hu; (go_simp) <;> with_reducible rfl)
  try simp only [Act.put, List.setIfInBounds_toArray, List.set_cons_zero, List.set_cons_succ]
  refine wpAnyH_take (i := 1) (oi := ?o1p) (v := ?v1p) ?h1p (by kernel_rfl) ?f1p ?r1p (fun _ _ _ h => h) (Or.inl ⟨?w1p, ?y1p⟩) (by assumption) ?t1p
  case h1p => simp only [List.getElem?_toArray]; rfl
  case f1p => kernel_rfl
  case r1p => kernel_rfl
  case w1p => rfl
  case y1p => (intro u hu; (go_simp) <;> with_reducible rfl)
  try simp only [Act.put, List.setIfInBounds_toArray, List.set_cons_zero, List.set_cons_succ]
  refine wpAnyH_take (i := 2) (oi := ?o2p) (v := ?v2p) ?h2p (by kernel_rfl) ?f2p ?r2p (fun _ _ _ h => h) (Or.inl ⟨?w2p, ?y2p⟩) (by assumption) ?t2p
  case h2p => simp only [List.getElem?_toArray]; rfl
  case f2p => kernel_rfl
  case r2p => kernel_rfl
  case w2p => rfl
  case y2p => (intro u hu; (go_simp) <;> with_reducible rfl)
  try simp only [Act.put, List.setIfInBounds_toArray, List.set_cons_zero, List.set_cons_succ]
  refine wpAnyH_take (i := 3) (oi := ?o3p) (v := .agg (List.map (Value.int .u8) k).toArray) ?h3p (by kernel_rfl) ?f3p ?r3p (fun _ _ _ h => h) ?y3p (by assumption) ?t3p
  case h3p => simp only [List.getElem?_toArray]; rfl
  case f3p => kernel_rfl
  case r3p => kernel_rfl
  case y3p => exact yieldsIf_load_mid (by rfl) 27 (.tmp 11) rfl b 0 rfl (List.map (Value.int .u8) k) _ (fun u hu => range_later hu HS.out.key) Tryd.underlying27 rfl hiK
  try simp only [Act.put, List.setIfInBounds_toArray, List.set_cons_zero, List.set_cons_succ]
  generalize w.drew = y0 at *
  revert hH
  apply cut2 (F := fun u x N => Hid (Ext w u) ∧ Hid (Ow u x 32 (List.replicate 32 0)) ∧ Hid (N = nn6 18446744073709551615) ∧ Hid (Bn 12 N))
  case h =>
    intro hrest hH
    refine wpAnyH_ready (rs := [4, 5]) (by kernel_rfl) (by simp) ?_
    refine AllReadyH.cons (o := ?ok1) ?hk1 (fun K hK => ?sk1) (AllReadyH.cons (o := ?ok2) ?hk2 (fun K hK => ?sk2) AllReadyH.nil)
    case hk1 => simp only [List.getElem?_toArray]; rfl
    case hk2 => simp only [List.getElem?_toArray]; rfl
    case sk1 =>
      go_simp
      refine (nonce_c 18446744073709551615 (by decide) (by decide) _).mono ?_
      rintro e V4 ⟨N, rfl, HN, HNn, hb⟩
      refine hK.out _ _ (hH.trans hb) (fun hH' => ?_)
      clear hK K hH
      have hH := hH'
      clear hH'
      try simp only [List.setIfInBounds_toArray, List.set]
      clear hb
      refine wpAnyH_ready (rs := [5]) (by kernel_rfl) (by simp) ?_
      refine AllReadyH.cons (o := ?ok5) ?hk5 (fun K hK => ?sk5) AllReadyH.nil
      case hk5 => simp only [List.getElem?_toArray]; rfl
      case sk5 =>
        obtain ⟨V7, hrun, hO, hb⟩ := make_l V4 32 (by decide)
        refine step_make_run rfl (.const (.int .i64 32)) (.const (.int .i64 32)) 31 rfl _ _ rfl rfl _ _ hrun ?_
        have Ox : Hid (Ow V7 V4.heap.size 32 (List.replicate 32 0)) := hO
        refine hK.out _ _ (hH.trans hb) (fun hH' => ?_)
        clear hK K hH
        have hH := hH'
        clear hH'
        try simp only [List.setIfInBounds_toArray, List.set]
        obtain ⟨bx, hbn⟩ : ∃ v, v = V4.heap.size := ⟨_, rfl⟩
        rw [← hbn] at Ox ⊢
        clear hb hrun hO hbn
        exact hrest V7 bx N ⟨hH, Ox, HN, HNn⟩
    case sk2 =>
      obtain ⟨V9, hrun, hO, hb⟩ := make_l y0 32 (by decide)
      refine step_make_run rfl (.const (.int .i64 32)) (.const (.int .i64 32)) 31 rfl _ _ rfl rfl _ _ hrun ?_
      have Ox : Hid (Ow V9 y0.heap.size 32 (List.replicate 32 0)) := hO
      refine hK.out _ _ (hH.trans hb) (fun hH' => ?_)
      clear hK K hH
      have hH := hH'
      clear hH'
      try simp only [List.setIfInBounds_toArray, List.set]
      obtain ⟨bx, hbn⟩ : ∃ v, v = y0.heap.size := ⟨_, rfl⟩
      rw [← hbn] at Ox ⊢
      clear hb hrun hO hbn
      refine wpAnyH_ready (rs := [4]) (by kernel_rfl) (by simp) ?_
      refine AllReadyH.cons (o := ?ok10) ?hk10 (fun K hK => ?sk10) AllReadyH.nil
      case hk10 => simp only [List.getElem?_toArray]; rfl
      case sk10 =>
        go_simp
        refine (nonce_c 18446744073709551615 (by decide) (by decide) _).mono ?_
        rintro e V12 ⟨N, rfl, HN, HNn, hb⟩
        refine hK.out _ _ (hH.trans hb) (fun hH' => ?_)
        clear hK K hH
        have hH := hH'
        clear hH'
        try simp only [List.setIfInBounds_toArray, List.set]
        replace Ox : Hid (Ow V12 bx 32 (List.replicate 32 0)) := Ox.out.later hb
        clear hb
        exact hrest V12 bx N ⟨hH, Ox, HN, HNn⟩
  case hr =>
    rintro Y2 bx N ⟨hE, Ox, HN, HNn⟩
    have hH := hE.out
    clear hE
    refine wpAnyH_ready (rs := [6]) (by kernel_rfl) (by simp) ?_
    refine AllReadyH.cons (o := ?o6q) ?h6q (fun K hK => ?_) AllReadyH.nil
    case h6q => simp only [List.getElem?_toArray]; rfl
    go_simp
    refine (seal_c k N none 0 0 [] (some ⟨bx, 0, none⟩) 32 32 (List.replicate 32 0) HS.out.bk HNn.out _ (Rd.nil _ _ _ (fun _ => rfl)) Ox.out.rd (by decide) (by decide)).mono ?_
    rintro e V2 ⟨gB, mB, XB, rfl, HmB, HXB, OB, hg, hb⟩
    have hY2 : w.heap.size ≤ Y2.heap.size := hH.size
    refine hK.out _ _ (hH.trans hb) (fun hH' => ?_)
    clear hK K hH
    have hH := hH'
    clear hH'
    try simp only [List.setIfInBounds_toArray, List.set]
    refine wpAnyH_take (i := 7) (oi := ?o7q) (v := ?v7q) ?h7q (by kernel_rfl) ?f7q ?r7q (fun _ _ _ h => h) (Or.inl ⟨?w7q, ?y7q⟩) (by assumption) ?t7q
    case h7q => simp only [List.getElem?_toArray]; rfl
    case f7q => kernel_rfl
    case r7q => kernel_rfl
    case w7q => rfl
    case y7q => (intro u hu; (go_simp) <;> with_reducible rfl)
    try simp only [Act.put, List.setIfInBounds_toArray, List.set_cons_zero, List.set_cons_succ]
    refine wpAnyH_done (by kernel_rfl) ?_ _
    refine NoPanic.normal ?_
    have hlt := HS.out.lt
    have hm : mB = 48 := HmB.out
    subst hm
    replace HS : Hid (Sx V2 b k true n) := HS.out.later hH
    have HE : Hid (ExtB b w V2) := ⟨hH.os, hH.tape, hH.output, hH.size, fun i hi _ => hH.block i hi⟩
    obtain ⟨K, hKK⟩ : ∃ K, K = XB.take 32 := ⟨_, rfl⟩
    have HKR : Hid (K = rk9 k) := by unfold Hid rk9; rw [hKK, HXB.out, HN.out]
    have hKn : Bn 32 K := by rw [HKR.out]; exact rk9_bn k
    have hcp := fun ty => copy_c V2 b 0 32 32 ⟨gB, 0, none⟩ 48 48 XB OB.out.rd 32 (by decide) HS.out.keyThere ty
    rw [← hKK] at hcp
    have HS2 : Hid (Sx (V2.setCells b 0 (List.map (Value.int .u8) K)) b K true n) := HS.out.setKey hKn
    have HE2 : Hid (ExtB b w (V2.setCells b 0 (List.map (Value.int .u8) K))) := HE.out.comp (extB_setCells _ _ _ (ExtB.refl b _))
    clear HS HE hKK hKn HXB OB HN HNn Ox HmB hb hH hY2 ch hiK
    go_wp2
    go_ret
    exact ⟨K, rfl, HKR, HS2, HE2.out⟩
end Go.Proofs.YtjmdgmbkkkoamaaDoor
