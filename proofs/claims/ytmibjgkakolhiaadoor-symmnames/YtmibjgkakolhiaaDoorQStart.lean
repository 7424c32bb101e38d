/-
  What chacha's fill and start do: the words of the key and the nonce, and the block ahead of all mixing. No statement of the seat is proved here.
-/
import Derived.Test.YtmibjgkakolhiaaDoorQDown
import Derived.Test.YtmibjgkakolhiaaDoorPk3
namespace Go.Proofs.YtmibjgkakolhiaaDoor
open Go.RowKit

/-- The word that stands i words in. -/
def wat (l : List Int) (i : Nat) : Int := got 4 (l.drop (4 * i))
set_option maxRecDepth 8000 in
theorem got_w (l : List Int) (h : Byt l) : W32 (got 4 l) := by
  unfold got
  split
  · rename_i hl
    obtain ⟨h0, h1⟩ := leN_w (l.take 4) (h.take 4)
    rw [List.length_take, Nat.min_eq_left hl] at h1
    exact ⟨h0, h1⟩
  · exact ⟨by decide, by decide⟩
set_option maxRecDepth 8000 in
theorem wat_w {l : List Int} (h : Byt l) (i : Nat) : W32 (wat l i) := got_w _ (h.drop _)
/-- So many words are written. -/
def fw (L : List Int) (off : Nat) (l : List Int) : Nat → List Int
  | 0 => L
  | k + 1 => (fw L off l k).set (off + k) (wat l k)
set_option maxRecDepth 8000 in
theorem fw_len (L : List Int) (off : Nat) (l : List Int) : ∀ k, (fw L off l k).length = L.length
  | 0 => rfl
  | k + 1 => by rw [fw, List.length_set, fw_len L off l k]
set_option maxRecDepth 8000 in
theorem fw_w {L : List Int} (hL : W16 L) (off : Nat) {l : List Int} (hl : Byt l) : ∀ k, W16 (fw L off l k)
  | 0 => hL
  | k + 1 => (fw_w hL off hl k).set _ (wat_w hl k)
set_option maxRecDepth 8000 in
set_option maxHeartbeats 1000000 in
theorem fill_c (bo off n m co : Nat) (L : List Int) (b o len cap : Nat) (l : List Int) (w : World) (hL : L.length = m) (hA : Ar w bo m (List.map (Value.int .u32) L)) (hn : off + n ≤ m) (hR : Rd w (some ⟨b, o, none⟩) len cap l) (hl : 4 * n ≤ len) (hlen : len ≤ 32) (hne : b ≠ bo) :
    Calls Tryd.prog 80 #[.slice (some ⟨bo, off, none⟩) n co, .slice (some ⟨b, o, none⟩) len cap] w fun e w' => e = .returned (.tuple #[]) ∧ Ar w' bo m (List.map (Value.int .u32) (fw L off l n)) ∧ ExtB bo w w' := by
  have HA : Hid (Ar w bo m (List.map (Value.int .u32) L)) := hA
  have HR : Hid (Rd w (some ⟨b, o, none⟩) len cap l) := hR
  have HL : Hid (L.length = m) := hL
  have hcl := hR.hle
  clear hA hR hL
  go_enter Tryd.func80, Tryd.ntmps80
  go_wp2
  go_loopw [7] (fun i wr => ∃ k : Nat, k ≤ n ∧ i = .int .i64 k ∧ Hid (Ar wr bo m (List.map (Value.int .u32) (fw L off l k))) ∧ Hid (ExtB bo w wr)) (fun i _ => n - (intOf i).toNat)
  case atStart => exact ⟨0, Nat.zero_le _, rfl, HA, ExtB.refl _ _⟩
  case round =>
    obtain ⟨k, hk, rfl, HA', HB'⟩ := hrel
    by_cases hlt : k < n
    · have g1 : (k : Int) < n := by omega
      have g2 : 4 * (k : Int) ≤ len := by omega
      have hr : Rd wr (some ⟨b, o, none⟩) len cap l := HR.out.extb HB'.out hne
      have HR' : Hid (Rd wr (some ⟨b, o + 4 * k, none⟩) (len - 4 * k) (cap - 4 * k) (l.drop (4 * k))) := hr.from (4 * k) (by omega) _ _ rfl (by omega)
      obtain ⟨hc1, hf1⟩ := HA'.out.cell (off + k) (by omega)
      clear hr
      go_wp2_with fail
      refine (get32_any _ _ _ _ _ HR'.out (by omega)).mono ?_
      rintro e w' ⟨rfl, hw⟩
      rw [hw]
      clear hw w' HR'
      obtain ⟨x, HX⟩ : ∃ x, Hid (x = wat l k) := ⟨_, rfl⟩
      rw [show got 4 (l.drop (4 * k)) = x from HX.out.symm]
      have hx : W32 x := by rw [HX.out]; exact wat_w HR.out.byt k
      obtain ⟨x0, x1⟩ := hx
      go_wp2
      go_roundw
      case rel => exact ⟨k + 1, by omega, by go_num, by
        unfold Hid
        rw [fw, List.map_set, ← HX.out]
        exact HA'.out.set (off + k) (by omega) _, HB'.out.set _ _⟩
      case measure => simp [intOf]; omega
    · have e : k = n := by omega
      subst e
      go_wp2
      go_end0
      exact ⟨rfl, HA'.out, HB'.out⟩

def iv0 : List Int := [1634760805, 857760878, 2036477234, 1797285236, 0, 0, 0, 0, 0, 0, 0, 0, 0, 0, 0, 0]
set_option maxRecDepth 8000 in
theorem w32_dec (l : List Int) (h : l.all (fun x => decide (0 ≤ x) && decide (x < 4294967296)) = true) : ∀ x ∈ l, W32 x := by
  intro x hx
  have := List.all_eq_true.1 h x hx
  simp only [Bool.and_eq_true, decide_eq_true_eq] at this
  exact this
set_option maxRecDepth 8000 in
theorem iv0_w : W16 iv0 := ⟨rfl, w32_dec _ (by decide)⟩
/-- The block ahead of all mixing. -/
def st (key : List Int) (count : Int) (nonce : List Int) : List Int := fw ((fw iv0 4 key 8).set 12 count) 13 nonce 3
set_option maxRecDepth 8000 in
theorem st_w {key nonce : List Int} {count : Int} (hk : Byt key) (hc : W32 count) (hn : Byt nonce) : W16 (st key count nonce) := fw_w ((fw_w iv0_w 4 hk 8).set 12 hc) 13 hn 3

set_option maxRecDepth 8000 in
set_option maxHeartbeats 4000000 in
theorem start_c (key : List Int) (count : Int) (nonce : List Int) (hk : Bn 32 key) (hc : W32 count) (hn : Bn 12 nonce) (w : World) :
    Calls Tryd.prog 68 #[(.agg (List.map (Value.int .u8) key).toArray), .int .u32 count, (.agg (List.map (Value.int .u8) nonce).toArray)] w fun e w' => ∃ L, e = .returned (.agg (List.map (Value.int .u32) L).toArray) ∧ Hid (L = st key count nonce) ∧ W16 L ∧ Below w.heap.size w w' := by
  have HK : Hid (Bn 32 key) := hk
  have HN : Hid (Bn 12 nonce) := hn
  have HW : Hid (W16 (st key count nonce)) := st_w hk.byt hc hn.byt
  have HWC : Hid (W32 count) := hc
  clear hk hn hc
  go_enter Tryd.func68, Tryd.ntmps68
  go_upto_region 1 with fail
  have AK : Hid (Ar (((w.alloc (.cells (List.map (Value.int .u8) key).toArray 27)).alloc (.cells (List.map (Value.int .u8) nonce).toArray 84)).alloc (.cells #[.int .u32 0, .int .u32 0, .int .u32 0, .int .u32 0, .int .u32 0, .int .u32 0, .int .u32 0, .int .u32 0, .int .u32 0, .int .u32 0, .int .u32 0, .int .u32 0, .int .u32 0, .int .u32 0, .int .u32 0, .int .u32 0] 115)) w.heap.size 32 (List.map (Value.int .u8) key)) := (ar_box w _ 32 HK.out.map_len _).later (bel2 _ _ _)
  have AN : Hid (Ar (((w.alloc (.cells (List.map (Value.int .u8) key).toArray 27)).alloc (.cells (List.map (Value.int .u8) nonce).toArray 84)).alloc (.cells #[.int .u32 0, .int .u32 0, .int .u32 0, .int .u32 0, .int .u32 0, .int .u32 0, .int .u32 0, .int .u32 0, .int .u32 0, .int .u32 0, .int .u32 0, .int .u32 0, .int .u32 0, .int .u32 0, .int .u32 0, .int .u32 0] 115)) (w.heap.size + 1) 12 (List.map (Value.int .u8) nonce)) := by have := (ar_box (w.alloc (.cells (List.map (Value.int .u8) key).toArray 27)) _ 12 HN.out.map_len 84).later (bel1 _ (.cells #[.int .u32 0, .int .u32 0, .int .u32 0, .int .u32 0, .int .u32 0, .int .u32 0, .int .u32 0, .int .u32 0, .int .u32 0, .int .u32 0, .int .u32 0, .int .u32 0, .int .u32 0, .int .u32 0, .int .u32 0, .int .u32 0] 115)); simpa [Hid] using this
  have HD : Hid ((((w.alloc (.cells (List.map (Value.int .u8) key).toArray 27)).alloc (.cells (List.map (Value.int .u8) nonce).toArray 84)).alloc (.cells #[.int .u32 0, .int .u32 0, .int .u32 0, .int .u32 0, .int .u32 0, .int .u32 0, .int .u32 0, .int .u32 0, .int .u32 0, .int .u32 0, .int .u32 0, .int .u32 0, .int .u32 0, .int .u32 0, .int .u32 0, .int .u32 0] 115)).there (w.heap.size + 1 + 1) 0 16) := by have := there_new ((w.alloc (.cells (List.map (Value.int .u8) key).toArray 27)).alloc (.cells (List.map (Value.int .u8) nonce).toArray 84)) 16 #[.int .u32 0, .int .u32 0, .int .u32 0, .int .u32 0, .int .u32 0, .int .u32 0, .int .u32 0, .int .u32 0, .int .u32 0, .int .u32 0, .int .u32 0, .int .u32 0, .int .u32 0, .int .u32 0, .int .u32 0, .int .u32 0] rfl 115; simpa [Hid] using this
  have HB : Hid (Below w.heap.size w (((w.alloc (.cells (List.map (Value.int .u8) key).toArray 27)).alloc (.cells (List.map (Value.int .u8) nonce).toArray 84)).alloc (.cells #[.int .u32 0, .int .u32 0, .int .u32 0, .int .u32 0, .int .u32 0, .int .u32 0, .int .u32 0, .int .u32 0, .int .u32 0, .int .u32 0, .int .u32 0, .int .u32 0, .int .u32 0, .int .u32 0, .int .u32 0, .int .u32 0] 115))) := bel3 _ _ _ _
  generalize ((w.alloc (.cells (List.map (Value.int .u8) key).toArray 27)).alloc (.cells (List.map (Value.int .u8) nonce).toArray 84)).alloc (.cells #[.int .u32 0, .int .u32 0, .int .u32 0, .int .u32 0, .int .u32 0, .int .u32 0, .int .u32 0, .int .u32 0, .int .u32 0, .int .u32 0, .int .u32 0, .int .u32 0, .int .u32 0, .int .u32 0, .int .u32 0, .int .u32 0] 115) = W0 at *
  have k1 : w.heap.size < w.heap.size + 1 := by omega
  have k2 : w.heap.size < w.heap.size + 1 + 1 := by omega
  have k3 : w.heap.size + 1 < w.heap.size + 1 + 1 := by omega
  generalize w.heap.size + 1 + 1 = q2 at *
  generalize w.heap.size + 1 = q1 at *
  have k4 : q2 < W0.heap.size := there_lt HD.out (by decide)
  obtain ⟨hlen, hone, hi⟩ := w16_cells iv0_w
  have hth := there_new W0 16 #[.int .u32 0, .int .u32 0, .int .u32 0, .int .u32 0, .int .u32 0, .int .u32 0, .int .u32 0, .int .u32 0, .int .u32 0, .int .u32 0, .int .u32 0, .int .u32 0, .int .u32 0, .int .u32 0, .int .u32 0, .int .u32 0] rfl 115
  have A7 : Hid (Ar ((W0.alloc (.cells #[.int .u32 0, .int .u32 0, .int .u32 0, .int .u32 0, .int .u32 0, .int .u32 0, .int .u32 0, .int .u32 0, .int .u32 0, .int .u32 0, .int .u32 0, .int .u32 0, .int .u32 0, .int .u32 0, .int .u32 0, .int .u32 0] 115)).setCells W0.heap.size 0 (List.map (Value.int .u32) iv0)) W0.heap.size 16 (List.map (Value.int .u32) iv0)) := ar_var W0 _ 16 rfl _ _ hlen
  have HX : Hid (Below W0.heap.size W0 ((W0.alloc (.cells #[.int .u32 0, .int .u32 0, .int .u32 0, .int .u32 0, .int .u32 0, .int .u32 0, .int .u32 0, .int .u32 0, .int .u32 0, .int .u32 0, .int .u32 0, .int .u32 0, .int .u32 0, .int .u32 0, .int .u32 0, .int .u32 0] 115)).setCells W0.heap.size 0 (List.map (Value.int .u32) iv0))) := bel_var _ _ _ _
  go_upto_region 2 with (refine wpList_store_mid rfl 115 (.tmp 7) (.tmp 8) rfl (W0.heap.size) 0 (List.map (Value.int .u32) iv0).toArray rfl rfl (by simpa [hlen] using hth) (by simpa using hi) (all_oneCell_toArray hone) ?_)
  clear hth hlen hone hi
  generalize (W0.alloc (.cells #[.int .u32 0, .int .u32 0, .int .u32 0, .int .u32 0, .int .u32 0, .int .u32 0, .int .u32 0, .int .u32 0, .int .u32 0, .int .u32 0, .int .u32 0, .int .u32 0, .int .u32 0, .int .u32 0, .int .u32 0, .int .u32 0] 115)).setCells W0.heap.size 0 (List.map (Value.int .u32) iv0) = W1 at *
  obtain ⟨b7, hs7⟩ : ∃ b, b = W0.heap.size := ⟨_, rfl⟩
  replace AK : Hid (Ar W1 w.heap.size 32 (List.map (Value.int .u8) key)) := AK.out.later HX.out
  replace AN : Hid (Ar W1 q1 12 (List.map (Value.int .u8) nonce)) := AN.out.later HX.out
  replace HD : Hid (W1.there q2 0 16) := there_later HX.out HD.out
  replace HB : Hid (Below w.heap.size w W1) := HB.out.trans (Below.mono HX.out HB.out.size)
  clear HX
  rw [← hs7] at A7 k4 ⊢
  clear hs7
  refine wp_region_noPanic ?_
  refine wp_region_held_drew (S := ExtB b7 W1) (by kernel_rfl) (ExtB.refl _ _).drew (fun hH => ?_)
  change wpAnyH _ _ _ _ _ _ #[false, false, false] _ _
  refine wpAnyH_take (i := 0) (oi := ?o0s2) (v := ?v0s2) ?h0s2 (by kernel_rfl) ?f0s2 ?r0s2 (fun _ _ _ h => h) (Or.inl ⟨?w0s2, ?y0s2⟩) (by assumption) ?t0s2
  case h0s2 => simp only [List.getElem?_toArray]; rfl
  case f0s2 => kernel_rfl
  case r0s2 => kernel_rfl
  case w0s2 => rfl
  case y0s2 => (intro u hu; (go_simp) <;> with_reducible rfl)
  try simp only [Act.put, List.setIfInBounds_toArray, List.set_cons_zero, List.set_cons_succ]
  refine wpAnyH_take (i := 1) (oi := ?o1s2) (v := ?v1s2) ?h1s2 (by kernel_rfl) ?f1s2 ?r1s2 (fun _ _ _ h => h) (Or.inl ⟨?w1s2, ?y1s2⟩) (by assumption) ?t1s2
  case h1s2 => simp only [List.getElem?_toArray]; rfl
  case f1s2 => kernel_rfl
  case r1s2 => kernel_rfl
  case w1s2 => rfl
  case y1s2 => (intro u hu; (go_simp) <;> with_reducible rfl)
  try simp only [Act.put, List.setIfInBounds_toArray, List.set_cons_zero, List.set_cons_succ]
  refine wpAnyH_ready (rs := [2]) (by kernel_rfl) (by simp) ?_
  refine AllReadyH.cons (o := ?o2s2) ?h2s2 (fun K hK => ?_) AllReadyH.nil
  case h2s2 => simp only [List.getElem?_toArray]; rfl
  go_simp
  refine (fill_c b7 4 8 16 12 iv0 w.heap.size 0 32 32 key _ rfl A7.out.drew (by decide) (AK.out.drew.rd_all HK.out.byt 32 (by decide)) (by decide) (by decide) (by omega)).mono ?_
  rintro e W2 ⟨rfl, hA, hb⟩
  refine hK.out _ _ (ExtB.comp hH hb) (fun hH' => ?_)
  clear hK K hH
  have hH := hH'
  clear hH'
  try simp only [List.setIfInBounds_toArray, List.set]
  refine wpAnyH_done (by kernel_rfl) ?_ _
  refine NoPanic.normal ?_
  clear hb A7
  obtain ⟨L1, HL1⟩ : ∃ l, Hid (l = fw iv0 4 key 8) := ⟨_, rfl⟩
  have hl1 : W16 L1 := by rw [HL1.out]; exact fw_w iv0_w 4 HK.out.byt 8
  have HW1 : Hid (W16 L1) := hl1
  have A7 : Hid (Ar W2 b7 16 (List.map (Value.int .u32) L1)) := by unfold Hid; rw [HL1.out]; exact hA
  clear hA hl1
  replace AN : Hid (Ar W2 q1 12 (List.map (Value.int .u8) nonce)) := AN.out.extb hH (by omega)
  replace HD : Hid (W2.there q2 0 16) := there_extb hH (by omega) HD.out
  replace HB : Hid (Below w.heap.size w W2) := ExtB.below hH HB.out (by omega)
  clear hH AK
  obtain ⟨x0, c0, f0, r0, HX0⟩ := ar_word A7.out HW1.out 12 (by decide)
  go_upto_region 4 with fail
  have A8 : Hid (Ar (W2.setCell ⟨b7, 12, none⟩ (.int .u32 count)) b7 16 (List.map (Value.int .u32) (L1.set 12 count))) := by unfold Hid; rw [List.map_set]; exact A7.out.set 12 (by decide) _
  replace AN : Hid (Ar (W2.setCell ⟨b7, 12, none⟩ (.int .u32 count)) q1 12 (List.map (Value.int .u8) nonce)) := AN.out.else _ _ (by omega) _
  replace HD : Hid ((W2.setCell ⟨b7, 12, none⟩ (.int .u32 count)).there q2 0 16) := there_set HD.out _ _ _
  replace HB : Hid (Below w.heap.size w (W2.setCell ⟨b7, 12, none⟩ (.int .u32 count))) := HB.out.setCell (p := ⟨b7, 12, none⟩) (by dsimp only; omega) _
  generalize W2.setCell ⟨b7, 12, none⟩ (.int .u32 count) = W3 at *
  have hl3 : (L1.set 12 count).length = 16 := by rw [List.length_set, HW1.out.len]
  clear c0 f0 r0 HX0 A7
  refine wp_region_noPanic ?_
  refine wp_region_held_drew (S := ExtB b7 W3) (by kernel_rfl) (ExtB.refl _ _).drew (fun hH => ?_)
  change wpAnyH _ _ _ _ _ _ #[false, false, false] _ _
  refine wpAnyH_take (i := 0) (oi := ?o0s4) (v := ?v0s4) ?h0s4 (by kernel_rfl) ?f0s4 ?r0s4 (fun _ _ _ h => h) (Or.inl ⟨?w0s4, ?y0s4⟩) (by assumption) ?t0s4
  case h0s4 => simp only [List.getElem?_toArray]; rfl
  case f0s4 => kernel_rfl
  case r0s4 => kernel_rfl
  case w0s4 => rfl
  case y0s4 => (intro u hu; (go_simp) <;> with_reducible rfl)
  try simp only [Act.put, List.setIfInBounds_toArray, List.set_cons_zero, List.set_cons_succ]
  refine wpAnyH_take (i := 1) (oi := ?o1s4) (v := ?v1s4) ?h1s4 (by kernel_rfl) ?f1s4 ?r1s4 (fun _ _ _ h => h) (Or.inl ⟨?w1s4, ?y1s4⟩) (by assumption) ?t1s4
  case h1s4 => simp only [List.getElem?_toArray]; rfl
  case f1s4 => kernel_rfl
  case r1s4 => kernel_rfl
  case w1s4 => rfl
  case y1s4 => (intro u hu; (go_simp) <;> with_reducible rfl)
  try simp only [Act.put, List.setIfInBounds_toArray, List.set_cons_zero, List.set_cons_succ]
  refine wpAnyH_ready (rs := [2]) (by kernel_rfl) (by simp) ?_
  refine AllReadyH.cons (o := ?o2s4) ?h2s4 (fun K hK => ?_) AllReadyH.nil
  case h2s4 => simp only [List.getElem?_toArray]; rfl
  go_simp
  refine (fill_c b7 13 3 16 3 (L1.set 12 count) q1 0 12 12 nonce _ hl3 A8.out.drew (by decide) (AN.out.drew.rd_all HN.out.byt 12 (by decide)) (by decide) (by decide) (by omega)).mono ?_
  rintro e W4 ⟨rfl, hA, hb⟩
  refine hK.out _ _ (ExtB.comp hH hb) (fun hH' => ?_)
  clear hK K hH
  have hH := hH'
  clear hH'
  try simp only [List.setIfInBounds_toArray, List.set]
  refine wpAnyH_done (by kernel_rfl) ?_ _
  refine NoPanic.normal ?_
  clear hb A8
  obtain ⟨L, HL⟩ : ∃ l, Hid (l = st key count nonce) := ⟨_, rfl⟩
  have A7 : Hid (Ar W4 b7 16 (List.map (Value.int .u32) L)) := by unfold Hid; rw [HL.out]; unfold st; rw [← HL1.out]; exact hA
  replace HW : Hid (W16 L) := by unfold Hid; rw [HL.out]; exact HW.out
  clear hA
  replace HD : Hid (W4.there q2 0 16) := there_extb hH (by omega) HD.out
  replace HB : Hid (Below w.heap.size w W4) := ExtB.below hH HB.out (by omega)
  clear hH
  obtain ⟨hlen, hone, hi⟩ := w16_cells HW.out
  generalize hcs : (List.map (Value.int .u32) L) = cs at *
  have HC : Hid ((List.map (Value.int .u32) L) = cs) := hcs
  clear hcs
  go_wp2_with (first
    | (refine wpList_load_mid rfl 115 (.tmp 7) rfl b7 0 rfl cs _ A7.out.rng Tryd.underlying115 rfl hi ?_)
    | (refine wpList_store_mid rfl 115 (.tmp 6) (.tmp 17) rfl q2 0 cs.toArray rfl rfl (by simpa [hlen] using HD.out) (by simpa using hi) (all_oneCell_toArray hone) ?_))
  have HR2 : Hid ((W4.setCells q2 0 cs).rangeAt q2 0 cs) := World.rangeAt_setCells_same _ _ _ _ (by rw [hlen]; exact HD.out)
  have hld := run_loadVar_mid (P := Tryd.prog) _ _ 0 115 _ _ HR2.out Tryd.underlying115 rfl hi
  exact bodyPost_ret (v := .agg cs.toArray) (by simp [results, Tryd.results68]; exact hld) rfl ⟨L, by rw [HC.out], HL, HW.out, below_setCells _ (by omega) _ _ _ HB.out⟩
end Go.Proofs.YtmibjgkakolhiaaDoor
