/-
  AeadMade's walk. No statement of the seat is proved here.
-/
import Derived.Test.YtppmodncljigcaaA6K
namespace Go.Proofs.Ytppmodncljigcaa
open Go.RowKit

set_option maxHeartbeats 1000000 in
theorem fillup_c (a : Option Addr) (len cap : Nat) (l : List Int) (hm : len ≤ 140737488351232) (w : World) (hr : Rd w a len cap l) :
    Calls Try.prog 15 #[.slice a len cap] w fun e w' => ∃ g T X, e = .returned (.slice (some ⟨g, 0, none⟩) T T) ∧ T ≤ 140737488351264 ∧ Hid (X = l ++ List.replicate (fl6 l.length) 0) ∧ Hid (Ow w' g T X) ∧ Below w.heap.size w w' := by
  obtain ⟨i0, hi, hz0, hz1, hz2⟩ := info_parts info5
  have HR : Hid (Rd w a len cap l) := hr
  have HL : Hid (l.length = len) := hr.hlen
  have HY : Hid (Byt l) := hr.byt
  clear hr
  obtain ⟨p, hp⟩ : ∃ p, p = len % 16 := ⟨_, rfl⟩
  have hp1 : Int.tmod (len : Int) 16 = (p : Int) := by rw [Int.tmod_eq_emod_of_nonneg (by omega)]; omega
  have hp2 : p < 16 := by omega
  obtain ⟨q, hq⟩ : ∃ q : Nat, q = 16 - p := ⟨_, rfl⟩
  have hq1 : (16 : Int) - (p : Int) = (q : Int) := by omega
  obtain ⟨m, hmm⟩ : ∃ m, m = q % 16 := ⟨_, rfl⟩
  have hm1 : Int.tmod (q : Int) 16 = (m : Int) := by rw [Int.tmod_eq_emod_of_nonneg (by omega)]; omega
  have hm2 : m < 16 := by omega
  have HM : Hid (m = fl6 l.length) := by unfold Hid fl6; rw [hmm, hq, hp, HL.out]
  clear hp hmm hq
  go_enter Try.func15, Try.ntmps15
  go_wp2_with (at_make; refine wpList_make_full _ rfl _ _ 23 rfl w.heap.size 5 i0 (.int .u8 0) 1 Try.underlying23 hi hz0 hz1 _ _ _ _ m rfl rfl rfl rfl (by rw [hz2]; omega) (by unfold maxLen; omega) (Nat.le_refl _) ?_)
  intro W1 hown hgrow
  have hb : Below w.heap.size w W1 := (Below.refl _ _).grown hgrow (Nat.le_refl _) (fun k h => by cases h)
  have HO : Hid (Ow W1 w.heap.size m (List.replicate m 0)) := ⟨⟨w.heap.size, by rw [← made_zero]; simpa [Value.cells] using hown⟩, byt_zero m⟩
  replace HR : Hid (Rd W1 a len cap l) := HR.out.below hb
  have HB : Hid (Below w.heap.size w W1) := hb
  clear hown hgrow hp1 hq1 hm1 hb
  go_wp2_with fail
  have HRL : Hid (RdL (W1.alloc (.cells #[.slice a len cap, .slice (some ⟨w.heap.size, 0, none⟩) m m] 23)) (some ⟨W1.heap.size, 0, none⟩) 2 [l, List.replicate m 0]) := RdL.two W1 _ _ _ _ _ _ _ _ 23 HR.out HO.out.rd
  replace HB : Hid (Below w.heap.size w (W1.alloc (.cells #[.slice a len cap, .slice (some ⟨w.heap.size, 0, none⟩) m m] 23))) := HB.out.alloc HB.out.size _
  have hF : [l, List.replicate m 0].flatten = l ++ List.replicate m 0 := by simp
  have hfl : [l, List.replicate m 0].flatten.length = len + m := by rw [hF, List.length_append, List.length_replicate, HL.out]
  refine (join_l _ _ _ _ _ HRL.out (by decide) (by rw [hfl]; omega) (by rw [hF]; exact HY.out.app (byt_zero m))).mono ?_
  rintro e V3 ⟨gj, T3, Xj, rfl, HTj, HXj, HOj, hgj, hb⟩
  have hT : T3 ≤ 140737488351264 := by rw [HTj.out, hfl]; omega
  have HX : Hid (Xj = l ++ List.replicate (fl6 l.length) 0) := by unfold Hid; rw [HXj.out, hF, ← HM.out]
  replace HB : Hid (Below w.heap.size w V3) := HB.out.trans (hb.mono HB.out.size)
  clear HTj HXj hF hfl HRL HO hgj hb
  go_wp2
  go_ret
  exact ⟨gj, T3, Xj, rfl, hT, HX, HOj, HB.out⟩
theorem RdL.later {w w' : World} {a : Option Addr} {len : Nat} {L : List (List Int)} (h : RdL w a len L) (hb : Below w.heap.size w w') : RdL w' a len L :=
  ⟨h.hlen, fun h0 => by
    obtain ⟨b, off, ha, hc⟩ := h.cell h0
    exact ⟨b, off, ha, fun i hi => by
      obtain ⟨x, n, c, h1, h2⟩ := hc i hi
      exact ⟨x, n, c, cell_later hb h1, h2.below hb⟩⟩⟩
theorem made_flat {ad H X1 X2 : List Int} {la lh : Nat} (h1 : X1 = ad ++ List.replicate (fl6 ad.length) 0) (h2 : X2 = H ++ List.replicate (fl6 H.length) 0) (ha : ad.length = la) (hh : H.length = lh) : [X1, X2, lay 8 (la : Int), lay 8 (lh : Int)].flatten = mt6 ad H := by
  unfold mt6 ml6
  rw [h1, h2, ha, hh]
  simp only [List.flatten_cons, List.flatten_nil, List.append_assoc]
set_option maxRecDepth 8000 in
set_option maxHeartbeats 16000000 in
theorem aeadMade_walk (key nonce : List Int) (aa : Option Addr) (la ca : Nat) (ad : List Int) (at' : Option Addr) (lt ct : Nat) (text : List Int) (hk : Bn 32 key) (hn : Bn 12 nonce) (ha : la ≤ 140737488351232) (hm : lt ≤ 140737488351232) (w : World) (hra : Rd w aa la ca ad) (hrt : Rd w at' lt ct text) :
    Calls Try.prog 6 #[(.agg (List.map (Value.int .u8) key).toArray), (.agg (List.map (Value.int .u8) nonce).toArray), .slice aa la ca, .slice at' lt ct] w fun e w' => e = .returned (.bool true) ∧ Below w.heap.size w w' := by
  have HRA : Hid (Rd w aa la ca ad) := hra
  have HRT : Hid (Rd w at' lt ct text) := hrt
  have HLA : Hid (ad.length = la) := hra.hlen
  have HBA : Hid (Byt ad) := hra.byt
  have HLT : Hid (text.length = lt) := hrt.hlen
  have HBT : Hid (Byt text) := hrt.byt
  clear hra hrt
  have hwa : IntKind.u64.wrap (la : Int) = (la : Int) := by rw [IntKind.wrap_u64]; omega
  have hwh : IntKind.u64.wrap (lt : Int) = (lt : Int) := by rw [IntKind.wrap_u64]; omega
  have HK : Hid (Bn 32 key) := hk
  have HN : Hid (Bn 12 nonce) := hn
  clear hk hn
  obtain ⟨_, _, hiK⟩ := bn32_cells HK.out
  obtain ⟨_, _, hiN⟩ := bn12_cells HN.out
  go_enter Try.func6, Try.ntmps6
  go_upto_region 1 with fail
  have AK : Hid (Ar ((w.alloc (.cells (List.map (Value.int .u8) key).toArray 22)).alloc (.cells (List.map (Value.int .u8) nonce).toArray 25)) w.heap.size 32 (List.map (Value.int .u8) key)) := (ar_box w _ 32 HK.out.map_len _).later (bel1 _ _)
  have AN : Hid (Ar ((w.alloc (.cells (List.map (Value.int .u8) key).toArray 22)).alloc (.cells (List.map (Value.int .u8) nonce).toArray 25)) (w.heap.size + 1) 12 (List.map (Value.int .u8) nonce)) := by have := (ar_box (w.alloc (.cells (List.map (Value.int .u8) key).toArray 22)) _ 12 HN.out.map_len 25); simpa [Hid] using this
  have HB : Hid (Below w.heap.size w ((w.alloc (.cells (List.map (Value.int .u8) key).toArray 22)).alloc (.cells (List.map (Value.int .u8) nonce).toArray 25))) := bel2 _ _ _
  generalize ((w.alloc (.cells (List.map (Value.int .u8) key).toArray 22)).alloc (.cells (List.map (Value.int .u8) nonce).toArray 25)) = W0 at *
  have k1 : w.heap.size < w.heap.size + 1 := by omega
  generalize hq1 : w.heap.size + 1 = q1 at *
  replace HRA : Hid (Rd W0 aa la ca ad) := HRA.out.below HB.out
  replace HRT : Hid (Rd W0 at' lt ct text) := HRT.out.below HB.out
  go_wp2_with (first
  | (refine wpList_load_mid rfl 22 (.tmp 4) rfl w.heap.size 0 rfl (List.map (Value.int .u8) key) _ AK.out.rng Try.underlying22 rfl hiK ?_)
  | (refine wpList_load_mid rfl 25 (.tmp 5) rfl q1 0 rfl (List.map (Value.int .u8) nonce) _ AN.out.rng Try.underlying25 rfl hiN ?_))
  refine (seal_c key nonce aa la ca ad at' lt ct text HK.out HN.out _ HRA.out HRT.out ha hm).mono ?_
  rintro e V ⟨gB, mB, XB, rfl, HmB, HXB, OB, -, hb⟩
  replace AK : Hid (Ar V w.heap.size 32 (List.map (Value.int .u8) key)) := AK.out.later hb
  replace AN : Hid (Ar V q1 12 (List.map (Value.int .u8) nonce)) := AN.out.later hb
  replace HRA : Hid (Rd V aa la ca ad) := HRA.out.below hb
  replace HRT : Hid (Rd V at' lt ct text) := HRT.out.below hb
  replace HB : Hid (Below w.heap.size w V) := HB.out.trans (hb.mono HB.out.size)
  clear hb
  go_wp2_with fail
  refine (known6_any _).mono ?_
  rintro e V1 ⟨rfl, hb⟩
  replace AK : Hid (Ar V1 w.heap.size 32 (List.map (Value.int .u8) key)) := AK.out.later hb
  replace AN : Hid (Ar V1 q1 12 (List.map (Value.int .u8) nonce)) := AN.out.later hb
  replace HRA : Hid (Rd V1 aa la ca ad) := HRA.out.below hb
  replace HRT : Hid (Rd V1 at' lt ct text) := HRT.out.below hb
  replace OB : Hid (Ow V1 gB mB XB) := OB.out.later hb
  replace HB : Hid (Below w.heap.size w V1) := HB.out.trans (hb.mono HB.out.size)
  clear hb
  have hwl : (lt : Int) + 16 = (mB : Int) := by rw [HmB.out]; omega
  go_wp2_with (first
  | (refine wpList_load_mid rfl 22 (.tmp 4) rfl w.heap.size 0 rfl (List.map (Value.int .u8) key) _ AK.out.rng Try.underlying22 rfl hiK ?_)
  | (refine wpList_load_mid rfl 25 (.tmp 5) rfl q1 0 rfl (List.map (Value.int .u8) nonce) _ AN.out.rng Try.underlying25 rfl hiN ?_))
  refine (apply_o key 1 nonce at' lt ct text HK.out ⟨by decide, by decide⟩ HN.out _ HRT.out hm).mono ?_
  rintro e V2 ⟨gh, H, rfl, HH, OH, -, hb⟩
  clear HRT hwl
  replace AK : Hid (Ar V2 w.heap.size 32 (List.map (Value.int .u8) key)) := AK.out.later hb
  replace AN : Hid (Ar V2 q1 12 (List.map (Value.int .u8) nonce)) := AN.out.later hb
  replace HRA : Hid (Rd V2 aa la ca ad) := HRA.out.below hb
  replace OB : Hid (Ow V2 gB mB XB) := OB.out.later hb
  replace HB : Hid (Below w.heap.size w V2) := HB.out.trans (hb.mono HB.out.size)
  clear hb
  have HLH : Hid (H.length = lt) := OH.out.len
  have HBH : Hid (Byt H) := OH.out.byt
  go_wp2_with (first
  | (refine wpList_load_mid rfl 22 (.tmp 4) rfl w.heap.size 0 rfl (List.map (Value.int .u8) key) _ AK.out.rng Try.underlying22 rfl hiK ?_)
  | (refine wpList_load_mid rfl 25 (.tmp 5) rfl q1 0 rfl (List.map (Value.int .u8) nonce) _ AN.out.rng Try.underlying25 rfl hiN ?_))
  refine (block_c key 0 nonce HK.out ⟨by decide, by decide⟩ HN.out _).mono ?_
  rintro e V3 ⟨B, rfl, HBk, hB, hb⟩
  have HBn : Hid (Bn 64 B) := hB
  clear hB AK AN hiK hiN
  replace HRA : Hid (Rd V3 aa la ca ad) := HRA.out.below hb
  replace OB : Hid (Ow V3 gB mB XB) := OB.out.later hb
  replace OH : Hid (Ow V3 gh lt H) := OH.out.later hb
  replace HB : Hid (Below w.heap.size w V3) := HB.out.trans (hb.mono HB.out.size)
  clear hb
  obtain ⟨hlen11, hone11, hi11⟩ := bn64_cells HBn.out
  obtain ⟨cs11, hcs⟩ : ∃ cs, cs = (List.map (Value.int .u8) B) := ⟨_, rfl⟩
  rw [← hcs] at hlen11 hone11 hi11 ⊢
  have HC11 : Hid (cs11 = (List.map (Value.int .u8) B)) := hcs
  clear hcs
  have hth := there_new V3 64 #[.int .u8 0, .int .u8 0, .int .u8 0, .int .u8 0, .int .u8 0, .int .u8 0, .int .u8 0, .int .u8 0, .int .u8 0, .int .u8 0, .int .u8 0, .int .u8 0, .int .u8 0, .int .u8 0, .int .u8 0, .int .u8 0, .int .u8 0, .int .u8 0, .int .u8 0, .int .u8 0, .int .u8 0, .int .u8 0, .int .u8 0, .int .u8 0, .int .u8 0, .int .u8 0, .int .u8 0, .int .u8 0, .int .u8 0, .int .u8 0, .int .u8 0, .int .u8 0, .int .u8 0, .int .u8 0, .int .u8 0, .int .u8 0, .int .u8 0, .int .u8 0, .int .u8 0, .int .u8 0, .int .u8 0, .int .u8 0, .int .u8 0, .int .u8 0, .int .u8 0, .int .u8 0, .int .u8 0, .int .u8 0, .int .u8 0, .int .u8 0, .int .u8 0, .int .u8 0, .int .u8 0, .int .u8 0, .int .u8 0, .int .u8 0, .int .u8 0, .int .u8 0, .int .u8 0, .int .u8 0, .int .u8 0, .int .u8 0, .int .u8 0, .int .u8 0] rfl 36
  have A11 : Hid (Ar ((V3.alloc (.cells #[.int .u8 0, .int .u8 0, .int .u8 0, .int .u8 0, .int .u8 0, .int .u8 0, .int .u8 0, .int .u8 0, .int .u8 0, .int .u8 0, .int .u8 0, .int .u8 0, .int .u8 0, .int .u8 0, .int .u8 0, .int .u8 0, .int .u8 0, .int .u8 0, .int .u8 0, .int .u8 0, .int .u8 0, .int .u8 0, .int .u8 0, .int .u8 0, .int .u8 0, .int .u8 0, .int .u8 0, .int .u8 0, .int .u8 0, .int .u8 0, .int .u8 0, .int .u8 0, .int .u8 0, .int .u8 0, .int .u8 0, .int .u8 0, .int .u8 0, .int .u8 0, .int .u8 0, .int .u8 0, .int .u8 0, .int .u8 0, .int .u8 0, .int .u8 0, .int .u8 0, .int .u8 0, .int .u8 0, .int .u8 0, .int .u8 0, .int .u8 0, .int .u8 0, .int .u8 0, .int .u8 0, .int .u8 0, .int .u8 0, .int .u8 0, .int .u8 0, .int .u8 0, .int .u8 0, .int .u8 0, .int .u8 0, .int .u8 0, .int .u8 0, .int .u8 0] 36)).setCells V3.heap.size 0 cs11) V3.heap.size 64 (List.map (Value.int .u8) B)) := by rw [← HC11.out]; exact ar_var _ _ 64 rfl _ _ hlen11
  have hX : Below V3.heap.size V3 ((V3.alloc (.cells #[.int .u8 0, .int .u8 0, .int .u8 0, .int .u8 0, .int .u8 0, .int .u8 0, .int .u8 0, .int .u8 0, .int .u8 0, .int .u8 0, .int .u8 0, .int .u8 0, .int .u8 0, .int .u8 0, .int .u8 0, .int .u8 0, .int .u8 0, .int .u8 0, .int .u8 0, .int .u8 0, .int .u8 0, .int .u8 0, .int .u8 0, .int .u8 0, .int .u8 0, .int .u8 0, .int .u8 0, .int .u8 0, .int .u8 0, .int .u8 0, .int .u8 0, .int .u8 0, .int .u8 0, .int .u8 0, .int .u8 0, .int .u8 0, .int .u8 0, .int .u8 0, .int .u8 0, .int .u8 0, .int .u8 0, .int .u8 0, .int .u8 0, .int .u8 0, .int .u8 0, .int .u8 0, .int .u8 0, .int .u8 0, .int .u8 0, .int .u8 0, .int .u8 0, .int .u8 0, .int .u8 0, .int .u8 0, .int .u8 0, .int .u8 0, .int .u8 0, .int .u8 0, .int .u8 0, .int .u8 0, .int .u8 0, .int .u8 0, .int .u8 0, .int .u8 0] 36)).setCells V3.heap.size 0 cs11) := bel_var _ _ _ _
  have hbs11 : w.heap.size ≤ V3.heap.size := HB.out.size
  replace HRA : Hid (Rd ((V3.alloc (.cells #[.int .u8 0, .int .u8 0, .int .u8 0, .int .u8 0, .int .u8 0, .int .u8 0, .int .u8 0, .int .u8 0, .int .u8 0, .int .u8 0, .int .u8 0, .int .u8 0, .int .u8 0, .int .u8 0, .int .u8 0, .int .u8 0, .int .u8 0, .int .u8 0, .int .u8 0, .int .u8 0, .int .u8 0, .int .u8 0, .int .u8 0, .int .u8 0, .int .u8 0, .int .u8 0, .int .u8 0, .int .u8 0, .int .u8 0, .int .u8 0, .int .u8 0, .int .u8 0, .int .u8 0, .int .u8 0, .int .u8 0, .int .u8 0, .int .u8 0, .int .u8 0, .int .u8 0, .int .u8 0, .int .u8 0, .int .u8 0, .int .u8 0, .int .u8 0, .int .u8 0, .int .u8 0, .int .u8 0, .int .u8 0, .int .u8 0, .int .u8 0, .int .u8 0, .int .u8 0, .int .u8 0, .int .u8 0, .int .u8 0, .int .u8 0, .int .u8 0, .int .u8 0, .int .u8 0, .int .u8 0, .int .u8 0, .int .u8 0, .int .u8 0, .int .u8 0] 36)).setCells V3.heap.size 0 cs11) aa la ca ad) := HRA.out.below hX
  replace OB : Hid (Ow ((V3.alloc (.cells #[.int .u8 0, .int .u8 0, .int .u8 0, .int .u8 0, .int .u8 0, .int .u8 0, .int .u8 0, .int .u8 0, .int .u8 0, .int .u8 0, .int .u8 0, .int .u8 0, .int .u8 0, .int .u8 0, .int .u8 0, .int .u8 0, .int .u8 0, .int .u8 0, .int .u8 0, .int .u8 0, .int .u8 0, .int .u8 0, .int .u8 0, .int .u8 0, .int .u8 0, .int .u8 0, .int .u8 0, .int .u8 0, .int .u8 0, .int .u8 0, .int .u8 0, .int .u8 0, .int .u8 0, .int .u8 0, .int .u8 0, .int .u8 0, .int .u8 0, .int .u8 0, .int .u8 0, .int .u8 0, .int .u8 0, .int .u8 0, .int .u8 0, .int .u8 0, .int .u8 0, .int .u8 0, .int .u8 0, .int .u8 0, .int .u8 0, .int .u8 0, .int .u8 0, .int .u8 0, .int .u8 0, .int .u8 0, .int .u8 0, .int .u8 0, .int .u8 0, .int .u8 0, .int .u8 0, .int .u8 0, .int .u8 0, .int .u8 0, .int .u8 0, .int .u8 0] 36)).setCells V3.heap.size 0 cs11) gB mB XB) := OB.out.later hX
  replace OH : Hid (Ow ((V3.alloc (.cells #[.int .u8 0, .int .u8 0, .int .u8 0, .int .u8 0, .int .u8 0, .int .u8 0, .int .u8 0, .int .u8 0, .int .u8 0, .int .u8 0, .int .u8 0, .int .u8 0, .int .u8 0, .int .u8 0, .int .u8 0, .int .u8 0, .int .u8 0, .int .u8 0, .int .u8 0, .int .u8 0, .int .u8 0, .int .u8 0, .int .u8 0, .int .u8 0, .int .u8 0, .int .u8 0, .int .u8 0, .int .u8 0, .int .u8 0, .int .u8 0, .int .u8 0, .int .u8 0, .int .u8 0, .int .u8 0, .int .u8 0, .int .u8 0, .int .u8 0, .int .u8 0, .int .u8 0, .int .u8 0, .int .u8 0, .int .u8 0, .int .u8 0, .int .u8 0, .int .u8 0, .int .u8 0, .int .u8 0, .int .u8 0, .int .u8 0, .int .u8 0, .int .u8 0, .int .u8 0, .int .u8 0, .int .u8 0, .int .u8 0, .int .u8 0, .int .u8 0, .int .u8 0, .int .u8 0, .int .u8 0, .int .u8 0, .int .u8 0, .int .u8 0, .int .u8 0] 36)).setCells V3.heap.size 0 cs11) gh lt H) := OH.out.later hX
  replace HB : Hid (Below w.heap.size w ((V3.alloc (.cells #[.int .u8 0, .int .u8 0, .int .u8 0, .int .u8 0, .int .u8 0, .int .u8 0, .int .u8 0, .int .u8 0, .int .u8 0, .int .u8 0, .int .u8 0, .int .u8 0, .int .u8 0, .int .u8 0, .int .u8 0, .int .u8 0, .int .u8 0, .int .u8 0, .int .u8 0, .int .u8 0, .int .u8 0, .int .u8 0, .int .u8 0, .int .u8 0, .int .u8 0, .int .u8 0, .int .u8 0, .int .u8 0, .int .u8 0, .int .u8 0, .int .u8 0, .int .u8 0, .int .u8 0, .int .u8 0, .int .u8 0, .int .u8 0, .int .u8 0, .int .u8 0, .int .u8 0, .int .u8 0, .int .u8 0, .int .u8 0, .int .u8 0, .int .u8 0, .int .u8 0, .int .u8 0, .int .u8 0, .int .u8 0, .int .u8 0, .int .u8 0, .int .u8 0, .int .u8 0, .int .u8 0, .int .u8 0, .int .u8 0, .int .u8 0, .int .u8 0, .int .u8 0, .int .u8 0, .int .u8 0, .int .u8 0, .int .u8 0, .int .u8 0, .int .u8 0] 36)).setCells V3.heap.size 0 cs11)) := HB.out.trans (hX.mono HB.out.size)
  clear hX
  go_upto_region 6 with (refine wpList_store_mid rfl 36 (.tmp 11) (.tmp 36) rfl (V3.heap.size) 0 cs11.toArray rfl rfl (by simpa [hlen11] using hth) (by simpa using hi11) (all_oneCell_toArray hone11) ?_)
  clear hth
  generalize ((V3.alloc (.cells #[.int .u8 0, .int .u8 0, .int .u8 0, .int .u8 0, .int .u8 0, .int .u8 0, .int .u8 0, .int .u8 0, .int .u8 0, .int .u8 0, .int .u8 0, .int .u8 0, .int .u8 0, .int .u8 0, .int .u8 0, .int .u8 0, .int .u8 0, .int .u8 0, .int .u8 0, .int .u8 0, .int .u8 0, .int .u8 0, .int .u8 0, .int .u8 0, .int .u8 0, .int .u8 0, .int .u8 0, .int .u8 0, .int .u8 0, .int .u8 0, .int .u8 0, .int .u8 0, .int .u8 0, .int .u8 0, .int .u8 0, .int .u8 0, .int .u8 0, .int .u8 0, .int .u8 0, .int .u8 0, .int .u8 0, .int .u8 0, .int .u8 0, .int .u8 0, .int .u8 0, .int .u8 0, .int .u8 0, .int .u8 0, .int .u8 0, .int .u8 0, .int .u8 0, .int .u8 0, .int .u8 0, .int .u8 0, .int .u8 0, .int .u8 0, .int .u8 0, .int .u8 0, .int .u8 0, .int .u8 0, .int .u8 0, .int .u8 0, .int .u8 0, .int .u8 0] 36)).setCells V3.heap.size 0 cs11) = W2 at *
  generalize V3.heap.size = b11 at *
  clear HC11 hone11 hlen11 hi11
  have k5 : b11 < W2.heap.size := A11.out.lt (by decide)
  go_upto_region 7 with fail
  have A12 : Hid (Ar (W2.alloc (.cells #[.int .u8 0, .int .u8 0, .int .u8 0, .int .u8 0, .int .u8 0, .int .u8 0, .int .u8 0, .int .u8 0, .int .u8 0, .int .u8 0, .int .u8 0, .int .u8 0, .int .u8 0, .int .u8 0, .int .u8 0, .int .u8 0, .int .u8 0, .int .u8 0, .int .u8 0, .int .u8 0, .int .u8 0, .int .u8 0, .int .u8 0, .int .u8 0, .int .u8 0, .int .u8 0, .int .u8 0, .int .u8 0, .int .u8 0, .int .u8 0, .int .u8 0, .int .u8 0] 22)) W2.heap.size 32 (List.map (Value.int .u8) (List.replicate 32 0))) := ar_box W2 (List.map (Value.int .u8) (List.replicate 32 0)) 32 rfl 22
  have hX := bel1 W2 (.cells #[.int .u8 0, .int .u8 0, .int .u8 0, .int .u8 0, .int .u8 0, .int .u8 0, .int .u8 0, .int .u8 0, .int .u8 0, .int .u8 0, .int .u8 0, .int .u8 0, .int .u8 0, .int .u8 0, .int .u8 0, .int .u8 0, .int .u8 0, .int .u8 0, .int .u8 0, .int .u8 0, .int .u8 0, .int .u8 0, .int .u8 0, .int .u8 0, .int .u8 0, .int .u8 0, .int .u8 0, .int .u8 0, .int .u8 0, .int .u8 0, .int .u8 0, .int .u8 0] 22)
  have hbs6 : w.heap.size ≤ W2.heap.size := HB.out.size
  have HE2 : Hid (Ext W2 (W2.alloc (.cells #[.int .u8 0, .int .u8 0, .int .u8 0, .int .u8 0, .int .u8 0, .int .u8 0, .int .u8 0, .int .u8 0, .int .u8 0, .int .u8 0, .int .u8 0, .int .u8 0, .int .u8 0, .int .u8 0, .int .u8 0, .int .u8 0, .int .u8 0, .int .u8 0, .int .u8 0, .int .u8 0, .int .u8 0, .int .u8 0, .int .u8 0, .int .u8 0, .int .u8 0, .int .u8 0, .int .u8 0, .int .u8 0, .int .u8 0, .int .u8 0, .int .u8 0, .int .u8 0] 22))) := hX
  replace A11 : Hid (Ar (W2.alloc (.cells #[.int .u8 0, .int .u8 0, .int .u8 0, .int .u8 0, .int .u8 0, .int .u8 0, .int .u8 0, .int .u8 0, .int .u8 0, .int .u8 0, .int .u8 0, .int .u8 0, .int .u8 0, .int .u8 0, .int .u8 0, .int .u8 0, .int .u8 0, .int .u8 0, .int .u8 0, .int .u8 0, .int .u8 0, .int .u8 0, .int .u8 0, .int .u8 0, .int .u8 0, .int .u8 0, .int .u8 0, .int .u8 0, .int .u8 0, .int .u8 0, .int .u8 0, .int .u8 0] 22)) b11 64 (List.map (Value.int .u8) B)) := A11.out.later hX
  replace HB : Hid (Below w.heap.size w (W2.alloc (.cells #[.int .u8 0, .int .u8 0, .int .u8 0, .int .u8 0, .int .u8 0, .int .u8 0, .int .u8 0, .int .u8 0, .int .u8 0, .int .u8 0, .int .u8 0, .int .u8 0, .int .u8 0, .int .u8 0, .int .u8 0, .int .u8 0, .int .u8 0, .int .u8 0, .int .u8 0, .int .u8 0, .int .u8 0, .int .u8 0, .int .u8 0, .int .u8 0, .int .u8 0, .int .u8 0, .int .u8 0, .int .u8 0, .int .u8 0, .int .u8 0, .int .u8 0, .int .u8 0] 22))) := HB.out.trans (hX.mono HB.out.size)
  clear hX
  obtain ⟨W3, hW3⟩ : ∃ W, W = W2.alloc (.cells #[.int .u8 0, .int .u8 0, .int .u8 0, .int .u8 0, .int .u8 0, .int .u8 0, .int .u8 0, .int .u8 0, .int .u8 0, .int .u8 0, .int .u8 0, .int .u8 0, .int .u8 0, .int .u8 0, .int .u8 0, .int .u8 0, .int .u8 0, .int .u8 0, .int .u8 0, .int .u8 0, .int .u8 0, .int .u8 0, .int .u8 0, .int .u8 0, .int .u8 0, .int .u8 0, .int .u8 0, .int .u8 0, .int .u8 0, .int .u8 0, .int .u8 0, .int .u8 0] 22) := ⟨_, rfl⟩
  obtain ⟨b12, hb12⟩ : ∃ b, b = W2.heap.size := ⟨_, rfl⟩
  rw [← hW3] at A12 A11 HB HE2 ⊢
  rw [← hb12] at A12 k5 hbs6 ⊢
  have k12 : W2.heap.size ≤ b12 := by omega
  clear hW3 hb12
  refine wp_region_noPanic ?_
  refine wp_region_held_drew (S := ExtB b12 W3) (by kernel_rfl) (ExtB.refl _ _).drew (fun hH => ?_)
  change wpAnyH _ _ _ _ _ _ #[false, false, false] _ _
  refine wpAnyH_take (i := 0) (oi := ?o0c) (v := ?v0c) ?h0c (by kernel_rfl) ?f0c ?r0c (fun _ _ _ h => h) (Or.inl ⟨?w0c, ?y0c⟩) (by assumption) ?t0c
  case h0c => simp only [List.getElem?_toArray]; rfl
  case f0c => kernel_rfl
  case r0c => kernel_rfl
  case w0c => rfl
  case y0c => (intro u hu; (go_simp) <;> with_reducible rfl)
  try simp only [Act.put, List.setIfInBounds_toArray, List.set_cons_zero, List.set_cons_succ]
  refine wpAnyH_take (i := 1) (oi := ?o1c) (v := ?v1c) ?h1c (by kernel_rfl) ?f1c ?r1c (fun _ _ _ h => h) (Or.inl ⟨?w1c, ?y1c⟩) (by assumption) ?t1c
  case h1c => simp only [List.getElem?_toArray]; rfl
  case f1c => kernel_rfl
  case r1c => kernel_rfl
  case w1c => rfl
  case y1c => (intro u hu; (go_simp) <;> with_reducible rfl)
  try simp only [Act.put, List.setIfInBounds_toArray, List.set_cons_zero, List.set_cons_succ]
  have hcp := fun ty => copy_c W3.drew b12 0 32 32 ⟨b11, 0, none⟩ 32 64 (B.take 32) ((A11.out.drew.rd_all HBn.out.byt 64 (by decide)).cut 32 (by decide)) 32 (by decide) A12.out.drew.all ty
  obtain ⟨B2, hB2⟩ : ∃ l, l = (B.take 32).take 32 := ⟨_, rfl⟩
  rw [← hB2] at hcp
  have HB2 : Hid (B2 = ot6 key nonce) := by unfold Hid ot6; rw [hB2, List.take_take, HBk.out]; rfl
  clear hB2
  have HBt : Hid (Bn 32 B2) := by unfold Hid; rw [HB2.out]; exact ot6_bn _ _
  refine wpAnyH_ready (rs := [2]) (by kernel_rfl) (by simp) ?_
  refine AllReadyH.cons (o := ?o2c) ?h2c (fun K hK => ?_) AllReadyH.nil
  case h2c => simp only [List.getElem?_toArray]; rfl
  go_simp
  refine hK.out _ _ (extB_setCells _ _ _ hH) (fun hH' => ?_)
  clear hK K hH
  have hH := hH'
  clear hH'
  try simp only [List.setIfInBounds_toArray, List.set]
  refine wpAnyH_done (by kernel_rfl) ?_ _
  refine NoPanic.normal ?_
  have A13 : Hid (Ar (W3.drew.setCells b12 0 (List.map (Value.int .u8) B2)) b12 32 (List.map (Value.int .u8) B2)) := by
    have := A12.out.drew.part 0 (List.map (Value.int .u8) B2) (by rw [HBt.out.map_len]; decide)
    rw [HBt.out.map_len, ← List.map_take, ← List.map_drop, ← List.map_append, ← List.map_append] at this
    simpa [Hid] using this
  have hE3 : Below W2.heap.size W2 (W3.drew.setCells b12 0 (List.map (Value.int .u8) B2)) := below_setCells _ (by omega) _ _ _ HE2.out.drew
  replace HB : Hid (Below w.heap.size w (W3.drew.setCells b12 0 (List.map (Value.int .u8) B2))) := below_setCells _ (by omega) _ _ _ HB.out.drew
  replace HRA : Hid (Rd (W3.drew.setCells b12 0 (List.map (Value.int .u8) B2)) aa la ca ad) := HRA.out.below hE3
  replace OB : Hid (Ow (W3.drew.setCells b12 0 (List.map (Value.int .u8) B2)) gB mB XB) := OB.out.later hE3
  replace OH : Hid (Ow (W3.drew.setCells b12 0 (List.map (Value.int .u8) B2)) gh lt H) := OH.out.later hE3
  clear A11 A12 hH hcp HE2 hE3 k12
  have A12 := A13
  clear A13
  go_upto_region 9 with fail
  obtain ⟨Y, hY⟩ : ∃ Y, Y = (W3.drew.setCells b12 0 (List.map (Value.int .u8) B2)) := ⟨_, rfl⟩
  rw [← hY] at A12 HB HRA OB OH ⊢
  clear hY
  obtain ⟨_, _, hi12⟩ := bn32_cells HBt.out
  have hml : (mt6 ad H).length ≤ 281474976710656 := by
    have h1 := fl6_lt ad.length
    have h2 := fl6_lt H.length
    rw [mt6_len, HLA.out, HLH.out]
    rw [HLA.out] at h1
    rw [HLH.out] at h2
    omega
  go_cut [14] from 40 (fun tv wx => ∃ (b : Nat) (X : List Int), tv = .pointer (some ⟨b, 0, none⟩) ∧ Hid (X = tt6 key nonce ad H) ∧ Hid (Bn 16 X) ∧ Hid (Ar wx b 16 (List.map (Value.int .u8) X)) ∧ Y.heap.size ≤ b ∧ Hid (Below Y.heap.size Y wx))
  case first =>
    refine wp_region_noPanic ?_
    refine wp_region_held_drew (S := Ext Y) (by kernel_rfl) (Ext.refl _).drew (fun hH => ?_)
    change wpAnyH _ _ _ _ _ _ #[false, false, false, false, false, false, false, false, false, false, false, false, false, false, false, false, false, false, false, false] _ _
    refine wpAnyH_take (i := 0) (oi := ?o0d16) (v := .agg (List.map (Value.int .u8) B2).toArray) ?h0d16 (by kernel_rfl) ?f0d16 ?r0d16 (fun _ _ _ h => h) ?y0d16 (by assumption) ?t0d16
    case h0d16 => simp only [List.getElem?_toArray]; rfl
    case f0d16 => kernel_rfl
    case r0d16 => kernel_rfl
    case y0d16 => exact yieldsIf_load_mid (by rfl) 22 (.tmp 12) rfl b12 0 rfl (List.map (Value.int .u8) B2) _ (fun u hu => range_later hu A12.out.rng) Try.underlying22 rfl hi12
    try simp only [Act.put, List.setIfInBounds_toArray, List.set_cons_zero, List.set_cons_succ]
    refine wpAnyH_take (i := 1) (oi := ?o1d16) (v := ?v1d16) ?h1d16 (by kernel_rfl) ?f1d16 ?r1d16 (fun _ _ _ h => h) (Or.inl ⟨?w1d16, ?y1d16⟩) (by assumption) ?t1d16
    case h1d16 => simp only [List.getElem?_toArray]; rfl
    case f1d16 => kernel_rfl
    case r1d16 => kernel_rfl
    case w1d16 => rfl
    case y1d16 => (intro u hu; (go_simp) <;> with_reducible rfl)
    try simp only [Act.put, List.setIfInBounds_toArray, List.set_cons_zero, List.set_cons_succ]
    refine wpAnyH_take (i := 2) (oi := ?o2d16) (v := ?v2d16) ?h2d16 (by kernel_rfl) ?f2d16 ?r2d16 (fun _ _ _ h => h) (Or.inl ⟨?w2d16, ?y2d16⟩) (by assumption) ?t2d16
    case h2d16 => simp only [List.getElem?_toArray]; rfl
    case f2d16 => kernel_rfl
    case r2d16 => kernel_rfl
    case w2d16 => rfl
    case y2d16 => (intro u hu; (go_simp) <;> with_reducible rfl)
    try simp only [Act.put, List.setIfInBounds_toArray, List.set_cons_zero, List.set_cons_succ]
    refine wpAnyH_take (i := 4) (oi := ?o4d16) (v := ?v4d16) ?h4d16 (by kernel_rfl) ?f4d16 ?r4d16 (fun _ _ _ h => h) (Or.inl ⟨?w4d16, ?y4d16⟩) (by assumption) ?t4d16
    case h4d16 => simp only [List.getElem?_toArray]; rfl
    case f4d16 => kernel_rfl
    case r4d16 => kernel_rfl
    case w4d16 => rfl
    case y4d16 => (intro u hu; (go_simp) <;> with_reducible rfl)
    try simp only [Act.put, List.setIfInBounds_toArray, List.set_cons_zero, List.set_cons_succ]
    refine wpAnyH_take (i := 5) (oi := ?o5d16) (v := ?v5d16) ?h5d16 (by kernel_rfl) ?f5d16 ?r5d16 (fun _ _ _ h => h) (Or.inl ⟨?w5d16, ?y5d16⟩) (by assumption) ?t5d16
    case h5d16 => simp only [List.getElem?_toArray]; rfl
    case f5d16 => kernel_rfl
    case r5d16 => kernel_rfl
    case w5d16 => rfl
    case y5d16 => (intro u hu; (go_simp) <;> with_reducible rfl)
    try simp only [Act.put, List.setIfInBounds_toArray, List.set_cons_zero, List.set_cons_succ]
    refine wpAnyH_take (i := 7) (oi := ?o7d16) (v := ?v7d16) ?h7d16 (by kernel_rfl) ?f7d16 ?r7d16 (fun _ _ _ h => h) (Or.inl ⟨?w7d16, ?y7d16⟩) (by assumption) ?t7d16
    case h7d16 => simp only [List.getElem?_toArray]; rfl
    case f7d16 => kernel_rfl
    case r7d16 => kernel_rfl
    case w7d16 => rfl
    case y7d16 => (intro u hu; (go_simp) <;> with_reducible rfl)
    try simp only [Act.put, List.setIfInBounds_toArray, List.set_cons_zero, List.set_cons_succ]
    refine wpAnyH_take (i := 8) (oi := ?o8d16) (v := ?v8d16) ?h8d16 (by kernel_rfl) ?f8d16 ?r8d16 (fun _ _ _ h => h) (Or.inl ⟨?w8d16, ?y8d16⟩) (by assumption) ?t8d16
    case h8d16 => simp only [List.getElem?_toArray]; rfl
    case f8d16 => kernel_rfl
    case r8d16 => kernel_rfl
    case w8d16 => rfl
    case y8d16 => (intro u hu; (go_simp) <;> with_reducible rfl)
    try simp only [Act.put, List.setIfInBounds_toArray, List.set_cons_zero, List.set_cons_succ]
    refine wpAnyH_take (i := 9) (oi := ?o9d16) (v := ?v9d16) ?h9d16 (by kernel_rfl) ?f9d16 ?r9d16 (fun _ _ _ h => h) (Or.inl ⟨?w9d16, ?y9d16⟩) (by assumption) ?t9d16
    case h9d16 => simp only [List.getElem?_toArray]; rfl
    case f9d16 => kernel_rfl
    case r9d16 => kernel_rfl
    case w9d16 => rfl
    case y9d16 => (intro u hu; (go_simp) <;> with_reducible rfl)
    try simp only [Act.put, List.setIfInBounds_toArray, List.set_cons_zero, List.set_cons_succ]
    refine wpAnyH_take (i := 11) (oi := ?o11d16) (v := ?v11d16) ?h11d16 (by kernel_rfl) ?f11d16 ?r11d16 (fun _ _ _ h => h) (Or.inl ⟨?w11d16, ?y11d16⟩) (by assumption) ?t11d16
    case h11d16 => simp only [List.getElem?_toArray]; rfl
    case f11d16 => kernel_rfl
    case r11d16 => kernel_rfl
    case w11d16 => rfl
    case y11d16 => (intro u hu; (go_simp) <;> with_reducible rfl)
    try simp only [Act.put, List.setIfInBounds_toArray, List.set_cons_zero, List.set_cons_succ]
    refine wpAnyH_take (i := 12) (oi := ?o12d16) (v := ?v12d16) ?h12d16 (by kernel_rfl) ?f12d16 ?r12d16 (fun _ _ _ h => h) (Or.inl ⟨?w12d16, ?y12d16⟩) (by assumption) ?t12d16
    case h12d16 => simp only [List.getElem?_toArray]; rfl
    case f12d16 => kernel_rfl
    case r12d16 => kernel_rfl
    case w12d16 => rfl
    case y12d16 => (intro u hu; (go_simp) <;> with_reducible rfl)
    try simp only [Act.put, List.setIfInBounds_toArray, List.set_cons_zero, List.set_cons_succ]
    refine wpAnyH_take (i := 13) (oi := ?o13d16) (v := ?v13d16) ?h13d16 (by kernel_rfl) ?f13d16 ?r13d16 (fun _ _ _ h => h) (Or.inl ⟨?w13d16, ?y13d16⟩) (by assumption) ?t13d16
    case h13d16 => simp only [List.getElem?_toArray]; rfl
    case f13d16 => kernel_rfl
    case r13d16 => kernel_rfl
    case w13d16 => rfl
    case y13d16 => (intro u hu; (go_simp) <;> with_reducible rfl)
    try simp only [Act.put, List.setIfInBounds_toArray, List.set_cons_zero, List.set_cons_succ]
    generalize Y.drew = y0 at *
    refine wpAnyH_ready (rs := [3, 18]) (by kernel_rfl) (by simp) ?_
    refine AllReadyH.cons (o := ?od17) ?hd17 (fun K hK => ?sd17) (AllReadyH.cons (o := ?od18) ?hd18 (fun K hK => ?sd18) AllReadyH.nil)
    case hd17 => simp only [List.getElem?_toArray]; rfl
    case hd18 => simp only [List.getElem?_toArray]; rfl
    case sd17 =>
      go_simp
      refine (fillup_c aa la ca ad ha _ (HRA.out.below hH)).mono ?_
      rintro e V20 ⟨g1, T1, X1, rfl, hT1, HX1, O1, hb⟩
      refine hK.out _ _ (hH.trans hb) (fun hH' => ?_)
      clear hK K hH
      have hH := hH'
      clear hH'
      try simp only [List.setIfInBounds_toArray, List.set]
      clear hb
      refine wpAnyH_ready (rs := [6, 18]) (by kernel_rfl) (by simp) ?_
      refine AllReadyH.cons (o := ?od21) ?hd21 (fun K hK => ?sd21) (AllReadyH.cons (o := ?od22) ?hd22 (fun K hK => ?sd22) AllReadyH.nil)
      case hd21 => simp only [List.getElem?_toArray]; rfl
      case hd22 => simp only [List.getElem?_toArray]; rfl
      case sd21 =>
        go_simp
        refine (fillup_c (some ⟨gh, 0, none⟩) lt lt H hm _ ((OH.out.later hH).rd)).mono ?_
        rintro e V24 ⟨g2, T2, X2, rfl, hT2, HX2, O2, hb⟩
        refine hK.out _ _ (hH.trans hb) (fun hH' => ?_)
        clear hK K hH
        have hH := hH'
        clear hH'
        try simp only [List.setIfInBounds_toArray, List.set]
        replace O1 : Hid (Ow V24 g1 T1 X1) := O1.out.later hb
        clear hb
        refine wpAnyH_ready (rs := [10, 18]) (by kernel_rfl) (by simp) ?_
        refine AllReadyH.cons (o := ?od25) ?hd25 (fun K hK => ?sd25) (AllReadyH.cons (o := ?od26) ?hd26 (fun K hK => ?sd26) AllReadyH.nil)
        case hd25 => simp only [List.getElem?_toArray]; rfl
        case hd26 => simp only [List.getElem?_toArray]; rfl
        case sd25 =>
          go_simp
          refine (put64_g (la : Int) _ ⟨by omega, by omega⟩).mono ?_
          rintro e V28 ⟨g3, rfl, HP1, hb⟩
          refine hK.out _ _ (hH.trans hb) (fun hH' => ?_)
          clear hK K hH
          have hH := hH'
          clear hH'
          try simp only [List.setIfInBounds_toArray, List.set]
          replace O1 : Hid (Ow V28 g1 T1 X1) := O1.out.later hb
          replace O2 : Hid (Ow V28 g2 T2 X2) := O2.out.later hb
          clear hb
          refine wpAnyH_ready (rs := [14, 18]) (by kernel_rfl) (by simp) ?_
          refine AllReadyH.cons (o := ?od29) ?hd29 (fun K hK => ?sd29) (AllReadyH.cons (o := ?od30) ?hd30 (fun K hK => ?sd30) AllReadyH.nil)
          case hd29 => simp only [List.getElem?_toArray]; rfl
          case hd30 => simp only [List.getElem?_toArray]; rfl
          case sd29 =>
            go_simp
            refine (put64_g (lt : Int) _ ⟨by omega, by omega⟩).mono ?_
            rintro e V32 ⟨g4, rfl, HP2, hb⟩
            refine hK.out _ _ (hH.trans hb) (fun hH' => ?_)
            clear hK K hH
            have hH := hH'
            clear hH'
            try simp only [List.setIfInBounds_toArray, List.set]
            replace O1 : Hid (Ow V32 g1 T1 X1) := O1.out.later hb
            replace O2 : Hid (Ow V32 g2 T2 X2) := O2.out.later hb
            replace HP1 : Hid (Rd V32 (some ⟨g3, 0, none⟩) 8 8 (lay 8 (la : Int))) := HP1.out.below hb
            clear hb
            refine wpAnyH_ready (rs := [15, 18]) (by kernel_rfl) (by simp) ?_
            refine AllReadyH.cons (o := ?od33) ?hd33 (fun K hK => ?sd33) (AllReadyH.cons (o := ?od34) ?hd34 (fun K hK => ?sd34) AllReadyH.nil)
            case hd33 => simp only [List.getElem?_toArray]; rfl
            case hd34 => simp only [List.getElem?_toArray]; rfl
            case sd33 =>
              go_simp
              have hb := bel1 V32 (.cells #[.slice (some ⟨g1, 0, none⟩) T1 T1, .slice (some ⟨g2, 0, none⟩) T2 T2, .slice (some ⟨g3, 0, none⟩) 8 8, .slice (some ⟨g4, 0, none⟩) 8 8] 23)
              obtain ⟨gr, hgr⟩ : ∃ g, g = V32.heap.size := ⟨_, rfl⟩
              have HRL : Hid (RdL (V32.alloc (.cells #[.slice (some ⟨g1, 0, none⟩) T1 T1, .slice (some ⟨g2, 0, none⟩) T2 T2, .slice (some ⟨g3, 0, none⟩) 8 8, .slice (some ⟨g4, 0, none⟩) 8 8] 23)) (some ⟨gr, 0, none⟩) 4 [X1, X2, lay 8 (la : Int), lay 8 (lt : Int)]) := by rw [hgr]; exact RdL.four V32 _ _ _ _ _ _ _ _ _ _ _ _ _ _ _ _ 23 O1.out.rd O2.out.rd HP1.out HP2.out
              rw [← hgr]
              clear hgr
              refine hK.out _ _ (hH.trans hb) (fun hH' => ?_)
              clear hK K hH
              have hH := hH'
              clear hH'
              try simp only [List.setIfInBounds_toArray, List.set]
              obtain ⟨V36, hnew⟩ : ∃ v, v = (V32.alloc (.cells #[.slice (some ⟨g1, 0, none⟩) T1 T1, .slice (some ⟨g2, 0, none⟩) T2 T2, .slice (some ⟨g3, 0, none⟩) 8 8, .slice (some ⟨g4, 0, none⟩) 8 8] 23)) := ⟨_, rfl⟩
              rw [← hnew] at hb hH HRL ⊢
              clear hb hnew
              clear O1 O2 HP1 HP2
              refine wpAnyH_ready (rs := [16, 18]) (by kernel_rfl) (by simp) ?_
              refine AllReadyH.cons (o := ?od37) ?hd37 (fun K hK => ?sd37) (AllReadyH.cons (o := ?od38) ?hd38 (fun K hK => ?sd38) AllReadyH.nil)
              case hd37 => simp only [List.getElem?_toArray]; rfl
              case hd38 => simp only [List.getElem?_toArray]; rfl
              case sd37 =>
                go_simp
                have HMT : Hid ([X1, X2, lay 8 (la : Int), lay 8 (lt : Int)].flatten = mt6 ad H) := made_flat HX1.out HX2.out HLA.out HLH.out
                refine (join_l _ _ _ _ _ HRL.out (by decide) (by rw [HMT.out]; exact hml) (by rw [HMT.out]; exact mt6_byt HBA.out HBH.out)).mono ?_
                rintro e V40 ⟨gj, T6, Xj, rfl, HTj, HXj, HOj, -, hb⟩
                have hT6 : T6 ≤ 281474976710656 := by rw [HTj.out, HMT.out]; exact hml
                replace HXj : Hid (Xj = mt6 ad H) := by unfold Hid; rw [HXj.out, HMT.out]
                refine hK.out _ _ (hH.trans hb) (fun hH' => ?_)
                clear hK K hH
                have hH := hH'
                clear hH'
                try simp only [List.setIfInBounds_toArray, List.set]
                replace HRL : Hid (RdL V40 (some ⟨gr, 0, none⟩) 4 [X1, X2, lay 8 (la : Int), lay 8 (lt : Int)]) := HRL.out.later hb
                clear hb
                refine wpAnyH_ready (rs := [17, 18]) (by kernel_rfl) (by simp) ?_
                refine AllReadyH.cons (o := ?od41) ?hd41 (fun K hK => ?sd41) (AllReadyH.cons (o := ?od42) ?hd42 (fun K hK => ?sd42) AllReadyH.nil)
                case hd41 => simp only [List.getElem?_toArray]; rfl
                case hd42 => simp only [List.getElem?_toArray]; rfl
                case sd41 =>
                  go_simp
                  refine (tag_c (some ⟨gj, 0, none⟩) T6 T6 B2 Xj HBt.out _ HOj.out.rd hT6).mono ?_
                  rintro e V44 ⟨TG, rfl, HTG, hTG, hb⟩
                  have HTn : Hid (Bn 16 TG) := hTG
                  have HTE : Hid (TG = tt6 key nonce ad H) := by unfold Hid tt6; rw [HTG.out, HB2.out, HXj.out]
                  refine hK.out _ _ (hH.trans hb) (fun hH' => ?_)
                  clear hK K hH
                  have hH := hH'
                  clear hH'
                  try simp only [List.setIfInBounds_toArray, List.set]
                  replace HRL : Hid (RdL V44 (some ⟨gr, 0, none⟩) 4 [X1, X2, lay 8 (la : Int), lay 8 (lt : Int)]) := HRL.out.later hb
                  replace HOj : Hid (Ow V44 gj T6 Xj) := HOj.out.later hb
                  clear hb
                  refine wpAnyH_ready (rs := [18]) (by kernel_rfl) (by simp) ?_
                  refine AllReadyH.cons (o := ?od45) ?hd45 (fun K hK => ?sd45) AllReadyH.nil
                  case hd45 => simp only [List.getElem?_toArray]; rfl
                  case sd45 =>
                    go_simp
                    have hLw : Y.heap.size ≤ V44.heap.size := hH.size
                    have hD : Hid ((V44.alloc (.cells #[.int .u8 0, .int .u8 0, .int .u8 0, .int .u8 0, .int .u8 0, .int .u8 0, .int .u8 0, .int .u8 0, .int .u8 0, .int .u8 0, .int .u8 0, .int .u8 0, .int .u8 0, .int .u8 0, .int .u8 0, .int .u8 0] 40)).there V44.heap.size 0 16) := there_new V44 16 #[.int .u8 0, .int .u8 0, .int .u8 0, .int .u8 0, .int .u8 0, .int .u8 0, .int .u8 0, .int .u8 0, .int .u8 0, .int .u8 0, .int .u8 0, .int .u8 0, .int .u8 0, .int .u8 0, .int .u8 0, .int .u8 0] rfl 40
                    have hb := bel1 V44 (.cells #[.int .u8 0, .int .u8 0, .int .u8 0, .int .u8 0, .int .u8 0, .int .u8 0, .int .u8 0, .int .u8 0, .int .u8 0, .int .u8 0, .int .u8 0, .int .u8 0, .int .u8 0, .int .u8 0, .int .u8 0, .int .u8 0] 40)
                    refine hK.out _ _ (hH.trans hb) (fun hH' => ?_)
                    clear hK K hH
                    have hH := hH'
                    clear hH'
                    try simp only [List.setIfInBounds_toArray, List.set]
                    obtain ⟨x47, hnew⟩ : ∃ v, v = V44.alloc (.cells #[.int .u8 0, .int .u8 0, .int .u8 0, .int .u8 0, .int .u8 0, .int .u8 0, .int .u8 0, .int .u8 0, .int .u8 0, .int .u8 0, .int .u8 0, .int .u8 0, .int .u8 0, .int .u8 0, .int .u8 0, .int .u8 0] 40) := ⟨_, rfl⟩
                    obtain ⟨bw, hbw⟩ : ∃ v, v = V44.heap.size := ⟨_, rfl⟩
                    rw [← hnew] at hb hD hH ⊢
                    rw [← hbw] at hD hLw ⊢
                    replace HRL : Hid (RdL x47 (some ⟨gr, 0, none⟩) 4 [X1, X2, lay 8 (la : Int), lay 8 (lt : Int)]) := HRL.out.later hb
                    replace HOj : Hid (Ow x47 gj T6 Xj) := HOj.out.later hb
                    clear hb hnew hbw
                    obtain ⟨hlenw, honew, hiw⟩ := bn16_cells HTn.out
                    obtain ⟨csw, hcsw⟩ : ∃ cs, cs = (List.map (Value.int .u8) TG) := ⟨_, rfl⟩
                    rw [← hcsw] at hlenw honew hiw ⊢
                    have HCW : Hid (csw = (List.map (Value.int .u8) TG)) := hcsw
                    clear hcsw
                    refine wpAnyH_ready (rs := [19]) (by kernel_rfl) (by simp) ?_
                    refine AllReadyH.cons (o := ?od48) ?hd48 (fun K hK => ?_) AllReadyH.nil
                    case hd48 => simp only [List.getElem?_toArray]; rfl
                    refine wp_store_mid 40 (.tmp 14) (.tmp 57) rfl bw 0 csw.toArray rfl rfl (by simpa [hlenw] using hD.out) (by simpa using hiw) (all_oneCell_toArray honew) ?_
                    refine hK.out _ _ (below_setCells _ (by omega) _ _ _ hH) (fun hH' => ?_)
                    clear hK K hH
                    have hH := hH'
                    clear hH'
                    try simp only [List.setIfInBounds_toArray, List.set]
                    refine wpAnyH_done (by kernel_rfl) ?_ _
                    refine NoPanic.normal ?_
                    go_wp2_with fail
                    go_meet
                    case rel => exact ⟨bw, TG, rfl, HTE, HTn.out, by rw [← HCW.out]; exact Ar.all_set hD.out hlenw, hLw, hH⟩
                case sd42 =>
                  go_simp
                  have hLw : Y.heap.size ≤ V40.heap.size := hH.size
                  have hD : Hid ((V40.alloc (.cells #[.int .u8 0, .int .u8 0, .int .u8 0, .int .u8 0, .int .u8 0, .int .u8 0, .int .u8 0, .int .u8 0, .int .u8 0, .int .u8 0, .int .u8 0, .int .u8 0, .int .u8 0, .int .u8 0, .int .u8 0, .int .u8 0] 40)).there V40.heap.size 0 16) := there_new V40 16 #[.int .u8 0, .int .u8 0, .int .u8 0, .int .u8 0, .int .u8 0, .int .u8 0, .int .u8 0, .int .u8 0, .int .u8 0, .int .u8 0, .int .u8 0, .int .u8 0, .int .u8 0, .int .u8 0, .int .u8 0, .int .u8 0] rfl 40
                  have hb := bel1 V40 (.cells #[.int .u8 0, .int .u8 0, .int .u8 0, .int .u8 0, .int .u8 0, .int .u8 0, .int .u8 0, .int .u8 0, .int .u8 0, .int .u8 0, .int .u8 0, .int .u8 0, .int .u8 0, .int .u8 0, .int .u8 0, .int .u8 0] 40)
                  refine hK.out _ _ (hH.trans hb) (fun hH' => ?_)
                  clear hK K hH
                  have hH := hH'
                  clear hH'
                  try simp only [List.setIfInBounds_toArray, List.set]
                  obtain ⟨x50, hnew⟩ : ∃ v, v = V40.alloc (.cells #[.int .u8 0, .int .u8 0, .int .u8 0, .int .u8 0, .int .u8 0, .int .u8 0, .int .u8 0, .int .u8 0, .int .u8 0, .int .u8 0, .int .u8 0, .int .u8 0, .int .u8 0, .int .u8 0, .int .u8 0, .int .u8 0] 40) := ⟨_, rfl⟩
                  obtain ⟨bw, hbw⟩ : ∃ v, v = V40.heap.size := ⟨_, rfl⟩
                  rw [← hnew] at hb hD hH ⊢
                  rw [← hbw] at hD hLw ⊢
                  replace HRL : Hid (RdL x50 (some ⟨gr, 0, none⟩) 4 [X1, X2, lay 8 (la : Int), lay 8 (lt : Int)]) := HRL.out.later hb
                  replace HOj : Hid (Ow x50 gj T6 Xj) := HOj.out.later hb
                  clear hb hnew hbw
                  refine wpAnyH_ready (rs := [17]) (by kernel_rfl) (by simp) ?_
                  refine AllReadyH.cons (o := ?od51) ?hd51 (fun K hK => ?sd51) AllReadyH.nil
                  case hd51 => simp only [List.getElem?_toArray]; rfl
                  case sd51 =>
                    go_simp
                    refine (tag_c (some ⟨gj, 0, none⟩) T6 T6 B2 Xj HBt.out _ HOj.out.rd hT6).mono ?_
                    rintro e V53 ⟨TG, rfl, HTG, hTG, hb⟩
                    have HTn : Hid (Bn 16 TG) := hTG
                    have HTE : Hid (TG = tt6 key nonce ad H) := by unfold Hid tt6; rw [HTG.out, HB2.out, HXj.out]
                    refine hK.out _ _ (hH.trans hb) (fun hH' => ?_)
                    clear hK K hH
                    have hH := hH'
                    clear hH'
                    try simp only [List.setIfInBounds_toArray, List.set]
                    replace HRL : Hid (RdL V53 (some ⟨gr, 0, none⟩) 4 [X1, X2, lay 8 (la : Int), lay 8 (lt : Int)]) := HRL.out.later hb
                    replace HOj : Hid (Ow V53 gj T6 Xj) := HOj.out.later hb
                    replace hD : Hid (V53.there bw 0 16) := there_later hb hD.out
                    clear hb
                    obtain ⟨hlenw, honew, hiw⟩ := bn16_cells HTn.out
                    obtain ⟨csw, hcsw⟩ : ∃ cs, cs = (List.map (Value.int .u8) TG) := ⟨_, rfl⟩
                    rw [← hcsw] at hlenw honew hiw ⊢
                    have HCW : Hid (csw = (List.map (Value.int .u8) TG)) := hcsw
                    clear hcsw
                    refine wpAnyH_ready (rs := [19]) (by kernel_rfl) (by simp) ?_
                    refine AllReadyH.cons (o := ?od54) ?hd54 (fun K hK => ?_) AllReadyH.nil
                    case hd54 => simp only [List.getElem?_toArray]; rfl
                    refine wp_store_mid 40 (.tmp 14) (.tmp 57) rfl bw 0 csw.toArray rfl rfl (by simpa [hlenw] using hD.out) (by simpa using hiw) (all_oneCell_toArray honew) ?_
                    refine hK.out _ _ (below_setCells _ (by omega) _ _ _ hH) (fun hH' => ?_)
                    clear hK K hH
                    have hH := hH'
                    clear hH'
                    try simp only [List.setIfInBounds_toArray, List.set]
                    refine wpAnyH_done (by kernel_rfl) ?_ _
                    refine NoPanic.normal ?_
                    go_wp2_with fail
                    go_meet
                    case rel => exact ⟨bw, TG, rfl, HTE, HTn.out, by rw [← HCW.out]; exact Ar.all_set hD.out hlenw, hLw, hH⟩
              case sd38 =>
                go_simp
                have hLw : Y.heap.size ≤ V36.heap.size := hH.size
                have hD : Hid ((V36.alloc (.cells #[.int .u8 0, .int .u8 0, .int .u8 0, .int .u8 0, .int .u8 0, .int .u8 0, .int .u8 0, .int .u8 0, .int .u8 0, .int .u8 0, .int .u8 0, .int .u8 0, .int .u8 0, .int .u8 0, .int .u8 0, .int .u8 0] 40)).there V36.heap.size 0 16) := there_new V36 16 #[.int .u8 0, .int .u8 0, .int .u8 0, .int .u8 0, .int .u8 0, .int .u8 0, .int .u8 0, .int .u8 0, .int .u8 0, .int .u8 0, .int .u8 0, .int .u8 0, .int .u8 0, .int .u8 0, .int .u8 0, .int .u8 0] rfl 40
                have hb := bel1 V36 (.cells #[.int .u8 0, .int .u8 0, .int .u8 0, .int .u8 0, .int .u8 0, .int .u8 0, .int .u8 0, .int .u8 0, .int .u8 0, .int .u8 0, .int .u8 0, .int .u8 0, .int .u8 0, .int .u8 0, .int .u8 0, .int .u8 0] 40)
                refine hK.out _ _ (hH.trans hb) (fun hH' => ?_)
                clear hK K hH
                have hH := hH'
                clear hH'
                try simp only [List.setIfInBounds_toArray, List.set]
                obtain ⟨x56, hnew⟩ : ∃ v, v = V36.alloc (.cells #[.int .u8 0, .int .u8 0, .int .u8 0, .int .u8 0, .int .u8 0, .int .u8 0, .int .u8 0, .int .u8 0, .int .u8 0, .int .u8 0, .int .u8 0, .int .u8 0, .int .u8 0, .int .u8 0, .int .u8 0, .int .u8 0] 40) := ⟨_, rfl⟩
                obtain ⟨bw, hbw⟩ : ∃ v, v = V36.heap.size := ⟨_, rfl⟩
                rw [← hnew] at hb hD hH ⊢
                rw [← hbw] at hD hLw ⊢
                replace HRL : Hid (RdL x56 (some ⟨gr, 0, none⟩) 4 [X1, X2, lay 8 (la : Int), lay 8 (lt : Int)]) := HRL.out.later hb
                clear hb hnew hbw
                refine wpAnyH_ready (rs := [16]) (by kernel_rfl) (by simp) ?_
                refine AllReadyH.cons (o := ?od57) ?hd57 (fun K hK => ?sd57) AllReadyH.nil
                case hd57 => simp only [List.getElem?_toArray]; rfl
                case sd57 =>
                  go_simp
                  have HMT : Hid ([X1, X2, lay 8 (la : Int), lay 8 (lt : Int)].flatten = mt6 ad H) := made_flat HX1.out HX2.out HLA.out HLH.out
                  refine (join_l _ _ _ _ _ HRL.out (by decide) (by rw [HMT.out]; exact hml) (by rw [HMT.out]; exact mt6_byt HBA.out HBH.out)).mono ?_
                  rintro e V59 ⟨gj, T6, Xj, rfl, HTj, HXj, HOj, -, hb⟩
                  have hT6 : T6 ≤ 281474976710656 := by rw [HTj.out, HMT.out]; exact hml
                  replace HXj : Hid (Xj = mt6 ad H) := by unfold Hid; rw [HXj.out, HMT.out]
                  refine hK.out _ _ (hH.trans hb) (fun hH' => ?_)
                  clear hK K hH
                  have hH := hH'
                  clear hH'
                  try simp only [List.setIfInBounds_toArray, List.set]
                  replace HRL : Hid (RdL V59 (some ⟨gr, 0, none⟩) 4 [X1, X2, lay 8 (la : Int), lay 8 (lt : Int)]) := HRL.out.later hb
                  replace hD : Hid (V59.there bw 0 16) := there_later hb hD.out
                  clear hb
                  refine wpAnyH_ready (rs := [17]) (by kernel_rfl) (by simp) ?_
                  refine AllReadyH.cons (o := ?od60) ?hd60 (fun K hK => ?sd60) AllReadyH.nil
                  case hd60 => simp only [List.getElem?_toArray]; rfl
                  case sd60 =>
                    go_simp
                    refine (tag_c (some ⟨gj, 0, none⟩) T6 T6 B2 Xj HBt.out _ HOj.out.rd hT6).mono ?_
                    rintro e V62 ⟨TG, rfl, HTG, hTG, hb⟩
                    have HTn : Hid (Bn 16 TG) := hTG
                    have HTE : Hid (TG = tt6 key nonce ad H) := by unfold Hid tt6; rw [HTG.out, HB2.out, HXj.out]
                    refine hK.out _ _ (hH.trans hb) (fun hH' => ?_)
                    clear hK K hH
                    have hH := hH'
                    clear hH'
                    try simp only [List.setIfInBounds_toArray, List.set]
                    replace HRL : Hid (RdL V62 (some ⟨gr, 0, none⟩) 4 [X1, X2, lay 8 (la : Int), lay 8 (lt : Int)]) := HRL.out.later hb
                    replace hD : Hid (V62.there bw 0 16) := there_later hb hD.out
                    replace HOj : Hid (Ow V62 gj T6 Xj) := HOj.out.later hb
                    clear hb
                    obtain ⟨hlenw, honew, hiw⟩ := bn16_cells HTn.out
                    obtain ⟨csw, hcsw⟩ : ∃ cs, cs = (List.map (Value.int .u8) TG) := ⟨_, rfl⟩
                    rw [← hcsw] at hlenw honew hiw ⊢
                    have HCW : Hid (csw = (List.map (Value.int .u8) TG)) := hcsw
                    clear hcsw
                    refine wpAnyH_ready (rs := [19]) (by kernel_rfl) (by simp) ?_
                    refine AllReadyH.cons (o := ?od63) ?hd63 (fun K hK => ?_) AllReadyH.nil
                    case hd63 => simp only [List.getElem?_toArray]; rfl
                    refine wp_store_mid 40 (.tmp 14) (.tmp 57) rfl bw 0 csw.toArray rfl rfl (by simpa [hlenw] using hD.out) (by simpa using hiw) (all_oneCell_toArray honew) ?_
                    refine hK.out _ _ (below_setCells _ (by omega) _ _ _ hH) (fun hH' => ?_)
                    clear hK K hH
                    have hH := hH'
                    clear hH'
                    try simp only [List.setIfInBounds_toArray, List.set]
                    refine wpAnyH_done (by kernel_rfl) ?_ _
                    refine NoPanic.normal ?_
                    go_wp2_with fail
                    go_meet
                    case rel => exact ⟨bw, TG, rfl, HTE, HTn.out, by rw [← HCW.out]; exact Ar.all_set hD.out hlenw, hLw, hH⟩
            case sd34 =>
              go_simp
              have hLw : Y.heap.size ≤ V32.heap.size := hH.size
              have hD : Hid ((V32.alloc (.cells #[.int .u8 0, .int .u8 0, .int .u8 0, .int .u8 0, .int .u8 0, .int .u8 0, .int .u8 0, .int .u8 0, .int .u8 0, .int .u8 0, .int .u8 0, .int .u8 0, .int .u8 0, .int .u8 0, .int .u8 0, .int .u8 0] 40)).there V32.heap.size 0 16) := there_new V32 16 #[.int .u8 0, .int .u8 0, .int .u8 0, .int .u8 0, .int .u8 0, .int .u8 0, .int .u8 0, .int .u8 0, .int .u8 0, .int .u8 0, .int .u8 0, .int .u8 0, .int .u8 0, .int .u8 0, .int .u8 0, .int .u8 0] rfl 40
              have hb := bel1 V32 (.cells #[.int .u8 0, .int .u8 0, .int .u8 0, .int .u8 0, .int .u8 0, .int .u8 0, .int .u8 0, .int .u8 0, .int .u8 0, .int .u8 0, .int .u8 0, .int .u8 0, .int .u8 0, .int .u8 0, .int .u8 0, .int .u8 0] 40)
              refine hK.out _ _ (hH.trans hb) (fun hH' => ?_)
              clear hK K hH
              have hH := hH'
              clear hH'
              try simp only [List.setIfInBounds_toArray, List.set]
              obtain ⟨x65, hnew⟩ : ∃ v, v = V32.alloc (.cells #[.int .u8 0, .int .u8 0, .int .u8 0, .int .u8 0, .int .u8 0, .int .u8 0, .int .u8 0, .int .u8 0, .int .u8 0, .int .u8 0, .int .u8 0, .int .u8 0, .int .u8 0, .int .u8 0, .int .u8 0, .int .u8 0] 40) := ⟨_, rfl⟩
              obtain ⟨bw, hbw⟩ : ∃ v, v = V32.heap.size := ⟨_, rfl⟩
              rw [← hnew] at hb hD hH ⊢
              rw [← hbw] at hD hLw ⊢
              replace O1 : Hid (Ow x65 g1 T1 X1) := O1.out.later hb
              replace O2 : Hid (Ow x65 g2 T2 X2) := O2.out.later hb
              replace HP1 : Hid (Rd x65 (some ⟨g3, 0, none⟩) 8 8 (lay 8 (la : Int))) := HP1.out.below hb
              replace HP2 : Hid (Rd x65 (some ⟨g4, 0, none⟩) 8 8 (lay 8 (lt : Int))) := HP2.out.below hb
              clear hb hnew hbw
              refine wpAnyH_ready (rs := [15]) (by kernel_rfl) (by simp) ?_
              refine AllReadyH.cons (o := ?od66) ?hd66 (fun K hK => ?sd66) AllReadyH.nil
              case hd66 => simp only [List.getElem?_toArray]; rfl
              case sd66 =>
                go_simp
                have hb := bel1 x65 (.cells #[.slice (some ⟨g1, 0, none⟩) T1 T1, .slice (some ⟨g2, 0, none⟩) T2 T2, .slice (some ⟨g3, 0, none⟩) 8 8, .slice (some ⟨g4, 0, none⟩) 8 8] 23)
                obtain ⟨gr, hgr⟩ : ∃ g, g = x65.heap.size := ⟨_, rfl⟩
                have HRL : Hid (RdL (x65.alloc (.cells #[.slice (some ⟨g1, 0, none⟩) T1 T1, .slice (some ⟨g2, 0, none⟩) T2 T2, .slice (some ⟨g3, 0, none⟩) 8 8, .slice (some ⟨g4, 0, none⟩) 8 8] 23)) (some ⟨gr, 0, none⟩) 4 [X1, X2, lay 8 (la : Int), lay 8 (lt : Int)]) := by rw [hgr]; exact RdL.four x65 _ _ _ _ _ _ _ _ _ _ _ _ _ _ _ _ 23 O1.out.rd O2.out.rd HP1.out HP2.out
                rw [← hgr]
                clear hgr
                refine hK.out _ _ (hH.trans hb) (fun hH' => ?_)
                clear hK K hH
                have hH := hH'
                clear hH'
                try simp only [List.setIfInBounds_toArray, List.set]
                obtain ⟨V68, hnew⟩ : ∃ v, v = (x65.alloc (.cells #[.slice (some ⟨g1, 0, none⟩) T1 T1, .slice (some ⟨g2, 0, none⟩) T2 T2, .slice (some ⟨g3, 0, none⟩) 8 8, .slice (some ⟨g4, 0, none⟩) 8 8] 23)) := ⟨_, rfl⟩
                rw [← hnew] at hb hH HRL ⊢
                replace hD : Hid (V68.there bw 0 16) := there_later hb hD.out
                clear hb hnew
                clear O1 O2 HP1 HP2
                refine wpAnyH_ready (rs := [16]) (by kernel_rfl) (by simp) ?_
                refine AllReadyH.cons (o := ?od69) ?hd69 (fun K hK => ?sd69) AllReadyH.nil
                case hd69 => simp only [List.getElem?_toArray]; rfl
                case sd69 =>
                  go_simp
                  have HMT : Hid ([X1, X2, lay 8 (la : Int), lay 8 (lt : Int)].flatten = mt6 ad H) := made_flat HX1.out HX2.out HLA.out HLH.out
                  refine (join_l _ _ _ _ _ HRL.out (by decide) (by rw [HMT.out]; exact hml) (by rw [HMT.out]; exact mt6_byt HBA.out HBH.out)).mono ?_
                  rintro e V71 ⟨gj, T6, Xj, rfl, HTj, HXj, HOj, -, hb⟩
                  have hT6 : T6 ≤ 281474976710656 := by rw [HTj.out, HMT.out]; exact hml
                  replace HXj : Hid (Xj = mt6 ad H) := by unfold Hid; rw [HXj.out, HMT.out]
                  refine hK.out _ _ (hH.trans hb) (fun hH' => ?_)
                  clear hK K hH
                  have hH := hH'
                  clear hH'
                  try simp only [List.setIfInBounds_toArray, List.set]
                  replace hD : Hid (V71.there bw 0 16) := there_later hb hD.out
                  replace HRL : Hid (RdL V71 (some ⟨gr, 0, none⟩) 4 [X1, X2, lay 8 (la : Int), lay 8 (lt : Int)]) := HRL.out.later hb
                  clear hb
                  refine wpAnyH_ready (rs := [17]) (by kernel_rfl) (by simp) ?_
                  refine AllReadyH.cons (o := ?od72) ?hd72 (fun K hK => ?sd72) AllReadyH.nil
                  case hd72 => simp only [List.getElem?_toArray]; rfl
                  case sd72 =>
                    go_simp
                    refine (tag_c (some ⟨gj, 0, none⟩) T6 T6 B2 Xj HBt.out _ HOj.out.rd hT6).mono ?_
                    rintro e V74 ⟨TG, rfl, HTG, hTG, hb⟩
                    have HTn : Hid (Bn 16 TG) := hTG
                    have HTE : Hid (TG = tt6 key nonce ad H) := by unfold Hid tt6; rw [HTG.out, HB2.out, HXj.out]
                    refine hK.out _ _ (hH.trans hb) (fun hH' => ?_)
                    clear hK K hH
                    have hH := hH'
                    clear hH'
                    try simp only [List.setIfInBounds_toArray, List.set]
                    replace hD : Hid (V74.there bw 0 16) := there_later hb hD.out
                    replace HRL : Hid (RdL V74 (some ⟨gr, 0, none⟩) 4 [X1, X2, lay 8 (la : Int), lay 8 (lt : Int)]) := HRL.out.later hb
                    replace HOj : Hid (Ow V74 gj T6 Xj) := HOj.out.later hb
                    clear hb
                    obtain ⟨hlenw, honew, hiw⟩ := bn16_cells HTn.out
                    obtain ⟨csw, hcsw⟩ : ∃ cs, cs = (List.map (Value.int .u8) TG) := ⟨_, rfl⟩
                    rw [← hcsw] at hlenw honew hiw ⊢
                    have HCW : Hid (csw = (List.map (Value.int .u8) TG)) := hcsw
                    clear hcsw
                    refine wpAnyH_ready (rs := [19]) (by kernel_rfl) (by simp) ?_
                    refine AllReadyH.cons (o := ?od75) ?hd75 (fun K hK => ?_) AllReadyH.nil
                    case hd75 => simp only [List.getElem?_toArray]; rfl
                    refine wp_store_mid 40 (.tmp 14) (.tmp 57) rfl bw 0 csw.toArray rfl rfl (by simpa [hlenw] using hD.out) (by simpa using hiw) (all_oneCell_toArray honew) ?_
                    refine hK.out _ _ (below_setCells _ (by omega) _ _ _ hH) (fun hH' => ?_)
                    clear hK K hH
                    have hH := hH'
                    clear hH'
                    try simp only [List.setIfInBounds_toArray, List.set]
                    refine wpAnyH_done (by kernel_rfl) ?_ _
                    refine NoPanic.normal ?_
                    go_wp2_with fail
                    go_meet
                    case rel => exact ⟨bw, TG, rfl, HTE, HTn.out, by rw [← HCW.out]; exact Ar.all_set hD.out hlenw, hLw, hH⟩
          case sd30 =>
            go_simp
            have hLw : Y.heap.size ≤ V28.heap.size := hH.size
            have hD : Hid ((V28.alloc (.cells #[.int .u8 0, .int .u8 0, .int .u8 0, .int .u8 0, .int .u8 0, .int .u8 0, .int .u8 0, .int .u8 0, .int .u8 0, .int .u8 0, .int .u8 0, .int .u8 0, .int .u8 0, .int .u8 0, .int .u8 0, .int .u8 0] 40)).there V28.heap.size 0 16) := there_new V28 16 #[.int .u8 0, .int .u8 0, .int .u8 0, .int .u8 0, .int .u8 0, .int .u8 0, .int .u8 0, .int .u8 0, .int .u8 0, .int .u8 0, .int .u8 0, .int .u8 0, .int .u8 0, .int .u8 0, .int .u8 0, .int .u8 0] rfl 40
            have hb := bel1 V28 (.cells #[.int .u8 0, .int .u8 0, .int .u8 0, .int .u8 0, .int .u8 0, .int .u8 0, .int .u8 0, .int .u8 0, .int .u8 0, .int .u8 0, .int .u8 0, .int .u8 0, .int .u8 0, .int .u8 0, .int .u8 0, .int .u8 0] 40)
            refine hK.out _ _ (hH.trans hb) (fun hH' => ?_)
            clear hK K hH
            have hH := hH'
            clear hH'
            try simp only [List.setIfInBounds_toArray, List.set]
            obtain ⟨x77, hnew⟩ : ∃ v, v = V28.alloc (.cells #[.int .u8 0, .int .u8 0, .int .u8 0, .int .u8 0, .int .u8 0, .int .u8 0, .int .u8 0, .int .u8 0, .int .u8 0, .int .u8 0, .int .u8 0, .int .u8 0, .int .u8 0, .int .u8 0, .int .u8 0, .int .u8 0] 40) := ⟨_, rfl⟩
            obtain ⟨bw, hbw⟩ : ∃ v, v = V28.heap.size := ⟨_, rfl⟩
            rw [← hnew] at hb hD hH ⊢
            rw [← hbw] at hD hLw ⊢
            replace O1 : Hid (Ow x77 g1 T1 X1) := O1.out.later hb
            replace O2 : Hid (Ow x77 g2 T2 X2) := O2.out.later hb
            replace HP1 : Hid (Rd x77 (some ⟨g3, 0, none⟩) 8 8 (lay 8 (la : Int))) := HP1.out.below hb
            clear hb hnew hbw
            refine wpAnyH_ready (rs := [14]) (by kernel_rfl) (by simp) ?_
            refine AllReadyH.cons (o := ?od78) ?hd78 (fun K hK => ?sd78) AllReadyH.nil
            case hd78 => simp only [List.getElem?_toArray]; rfl
            case sd78 =>
              go_simp
              refine (put64_g (lt : Int) _ ⟨by omega, by omega⟩).mono ?_
              rintro e V80 ⟨g4, rfl, HP2, hb⟩
              refine hK.out _ _ (hH.trans hb) (fun hH' => ?_)
              clear hK K hH
              have hH := hH'
              clear hH'
              try simp only [List.setIfInBounds_toArray, List.set]
              replace O1 : Hid (Ow V80 g1 T1 X1) := O1.out.later hb
              replace O2 : Hid (Ow V80 g2 T2 X2) := O2.out.later hb
              replace HP1 : Hid (Rd V80 (some ⟨g3, 0, none⟩) 8 8 (lay 8 (la : Int))) := HP1.out.below hb
              replace hD : Hid (V80.there bw 0 16) := there_later hb hD.out
              clear hb
              refine wpAnyH_ready (rs := [15]) (by kernel_rfl) (by simp) ?_
              refine AllReadyH.cons (o := ?od81) ?hd81 (fun K hK => ?sd81) AllReadyH.nil
              case hd81 => simp only [List.getElem?_toArray]; rfl
              case sd81 =>
                go_simp
                have hb := bel1 V80 (.cells #[.slice (some ⟨g1, 0, none⟩) T1 T1, .slice (some ⟨g2, 0, none⟩) T2 T2, .slice (some ⟨g3, 0, none⟩) 8 8, .slice (some ⟨g4, 0, none⟩) 8 8] 23)
                obtain ⟨gr, hgr⟩ : ∃ g, g = V80.heap.size := ⟨_, rfl⟩
                have HRL : Hid (RdL (V80.alloc (.cells #[.slice (some ⟨g1, 0, none⟩) T1 T1, .slice (some ⟨g2, 0, none⟩) T2 T2, .slice (some ⟨g3, 0, none⟩) 8 8, .slice (some ⟨g4, 0, none⟩) 8 8] 23)) (some ⟨gr, 0, none⟩) 4 [X1, X2, lay 8 (la : Int), lay 8 (lt : Int)]) := by rw [hgr]; exact RdL.four V80 _ _ _ _ _ _ _ _ _ _ _ _ _ _ _ _ 23 O1.out.rd O2.out.rd HP1.out HP2.out
                rw [← hgr]
                clear hgr
                refine hK.out _ _ (hH.trans hb) (fun hH' => ?_)
                clear hK K hH
                have hH := hH'
                clear hH'
                try simp only [List.setIfInBounds_toArray, List.set]
                obtain ⟨V83, hnew⟩ : ∃ v, v = (V80.alloc (.cells #[.slice (some ⟨g1, 0, none⟩) T1 T1, .slice (some ⟨g2, 0, none⟩) T2 T2, .slice (some ⟨g3, 0, none⟩) 8 8, .slice (some ⟨g4, 0, none⟩) 8 8] 23)) := ⟨_, rfl⟩
                rw [← hnew] at hb hH HRL ⊢
                replace hD : Hid (V83.there bw 0 16) := there_later hb hD.out
                clear hb hnew
                clear O1 O2 HP1 HP2
                refine wpAnyH_ready (rs := [16]) (by kernel_rfl) (by simp) ?_
                refine AllReadyH.cons (o := ?od84) ?hd84 (fun K hK => ?sd84) AllReadyH.nil
                case hd84 => simp only [List.getElem?_toArray]; rfl
                case sd84 =>
                  go_simp
                  have HMT : Hid ([X1, X2, lay 8 (la : Int), lay 8 (lt : Int)].flatten = mt6 ad H) := made_flat HX1.out HX2.out HLA.out HLH.out
                  refine (join_l _ _ _ _ _ HRL.out (by decide) (by rw [HMT.out]; exact hml) (by rw [HMT.out]; exact mt6_byt HBA.out HBH.out)).mono ?_
                  rintro e V86 ⟨gj, T6, Xj, rfl, HTj, HXj, HOj, -, hb⟩
                  have hT6 : T6 ≤ 281474976710656 := by rw [HTj.out, HMT.out]; exact hml
                  replace HXj : Hid (Xj = mt6 ad H) := by unfold Hid; rw [HXj.out, HMT.out]
                  refine hK.out _ _ (hH.trans hb) (fun hH' => ?_)
                  clear hK K hH
                  have hH := hH'
                  clear hH'
                  try simp only [List.setIfInBounds_toArray, List.set]
                  replace hD : Hid (V86.there bw 0 16) := there_later hb hD.out
                  replace HRL : Hid (RdL V86 (some ⟨gr, 0, none⟩) 4 [X1, X2, lay 8 (la : Int), lay 8 (lt : Int)]) := HRL.out.later hb
                  clear hb
                  refine wpAnyH_ready (rs := [17]) (by kernel_rfl) (by simp) ?_
                  refine AllReadyH.cons (o := ?od87) ?hd87 (fun K hK => ?sd87) AllReadyH.nil
                  case hd87 => simp only [List.getElem?_toArray]; rfl
                  case sd87 =>
                    go_simp
                    refine (tag_c (some ⟨gj, 0, none⟩) T6 T6 B2 Xj HBt.out _ HOj.out.rd hT6).mono ?_
                    rintro e V89 ⟨TG, rfl, HTG, hTG, hb⟩
                    have HTn : Hid (Bn 16 TG) := hTG
                    have HTE : Hid (TG = tt6 key nonce ad H) := by unfold Hid tt6; rw [HTG.out, HB2.out, HXj.out]
                    refine hK.out _ _ (hH.trans hb) (fun hH' => ?_)
                    clear hK K hH
                    have hH := hH'
                    clear hH'
                    try simp only [List.setIfInBounds_toArray, List.set]
                    replace hD : Hid (V89.there bw 0 16) := there_later hb hD.out
                    replace HRL : Hid (RdL V89 (some ⟨gr, 0, none⟩) 4 [X1, X2, lay 8 (la : Int), lay 8 (lt : Int)]) := HRL.out.later hb
                    replace HOj : Hid (Ow V89 gj T6 Xj) := HOj.out.later hb
                    clear hb
                    obtain ⟨hlenw, honew, hiw⟩ := bn16_cells HTn.out
                    obtain ⟨csw, hcsw⟩ : ∃ cs, cs = (List.map (Value.int .u8) TG) := ⟨_, rfl⟩
                    rw [← hcsw] at hlenw honew hiw ⊢
                    have HCW : Hid (csw = (List.map (Value.int .u8) TG)) := hcsw
                    clear hcsw
                    refine wpAnyH_ready (rs := [19]) (by kernel_rfl) (by simp) ?_
                    refine AllReadyH.cons (o := ?od90) ?hd90 (fun K hK => ?_) AllReadyH.nil
                    case hd90 => simp only [List.getElem?_toArray]; rfl
                    refine wp_store_mid 40 (.tmp 14) (.tmp 57) rfl bw 0 csw.toArray rfl rfl (by simpa [hlenw] using hD.out) (by simpa using hiw) (all_oneCell_toArray honew) ?_
                    refine hK.out _ _ (below_setCells _ (by omega) _ _ _ hH) (fun hH' => ?_)
                    clear hK K hH
                    have hH := hH'
                    clear hH'
                    try simp only [List.setIfInBounds_toArray, List.set]
                    refine wpAnyH_done (by kernel_rfl) ?_ _
                    refine NoPanic.normal ?_
                    go_wp2_with fail
                    go_meet
                    case rel => exact ⟨bw, TG, rfl, HTE, HTn.out, by rw [← HCW.out]; exact Ar.all_set hD.out hlenw, hLw, hH⟩
        case sd26 =>
          go_simp
          have hLw : Y.heap.size ≤ V24.heap.size := hH.size
          have hD : Hid ((V24.alloc (.cells #[.int .u8 0, .int .u8 0, .int .u8 0, .int .u8 0, .int .u8 0, .int .u8 0, .int .u8 0, .int .u8 0, .int .u8 0, .int .u8 0, .int .u8 0, .int .u8 0, .int .u8 0, .int .u8 0, .int .u8 0, .int .u8 0] 40)).there V24.heap.size 0 16) := there_new V24 16 #[.int .u8 0, .int .u8 0, .int .u8 0, .int .u8 0, .int .u8 0, .int .u8 0, .int .u8 0, .int .u8 0, .int .u8 0, .int .u8 0, .int .u8 0, .int .u8 0, .int .u8 0, .int .u8 0, .int .u8 0, .int .u8 0] rfl 40
          have hb := bel1 V24 (.cells #[.int .u8 0, .int .u8 0, .int .u8 0, .int .u8 0, .int .u8 0, .int .u8 0, .int .u8 0, .int .u8 0, .int .u8 0, .int .u8 0, .int .u8 0, .int .u8 0, .int .u8 0, .int .u8 0, .int .u8 0, .int .u8 0] 40)
          refine hK.out _ _ (hH.trans hb) (fun hH' => ?_)
          clear hK K hH
          have hH := hH'
          clear hH'
          try simp only [List.setIfInBounds_toArray, List.set]
          obtain ⟨x92, hnew⟩ : ∃ v, v = V24.alloc (.cells #[.int .u8 0, .int .u8 0, .int .u8 0, .int .u8 0, .int .u8 0, .int .u8 0, .int .u8 0, .int .u8 0, .int .u8 0, .int .u8 0, .int .u8 0, .int .u8 0, .int .u8 0, .int .u8 0, .int .u8 0, .int .u8 0] 40) := ⟨_, rfl⟩
          obtain ⟨bw, hbw⟩ : ∃ v, v = V24.heap.size := ⟨_, rfl⟩
          rw [← hnew] at hb hD hH ⊢
          rw [← hbw] at hD hLw ⊢
          replace O1 : Hid (Ow x92 g1 T1 X1) := O1.out.later hb
          replace O2 : Hid (Ow x92 g2 T2 X2) := O2.out.later hb
          clear hb hnew hbw
          refine wpAnyH_ready (rs := [10]) (by kernel_rfl) (by simp) ?_
          refine AllReadyH.cons (o := ?od93) ?hd93 (fun K hK => ?sd93) AllReadyH.nil
          case hd93 => simp only [List.getElem?_toArray]; rfl
          case sd93 =>
            go_simp
            refine (put64_g (la : Int) _ ⟨by omega, by omega⟩).mono ?_
            rintro e V95 ⟨g3, rfl, HP1, hb⟩
            refine hK.out _ _ (hH.trans hb) (fun hH' => ?_)
            clear hK K hH
            have hH := hH'
            clear hH'
            try simp only [List.setIfInBounds_toArray, List.set]
            replace O1 : Hid (Ow V95 g1 T1 X1) := O1.out.later hb
            replace O2 : Hid (Ow V95 g2 T2 X2) := O2.out.later hb
            replace hD : Hid (V95.there bw 0 16) := there_later hb hD.out
            clear hb
            refine wpAnyH_ready (rs := [14]) (by kernel_rfl) (by simp) ?_
            refine AllReadyH.cons (o := ?od96) ?hd96 (fun K hK => ?sd96) AllReadyH.nil
            case hd96 => simp only [List.getElem?_toArray]; rfl
            case sd96 =>
              go_simp
              refine (put64_g (lt : Int) _ ⟨by omega, by omega⟩).mono ?_
              rintro e V98 ⟨g4, rfl, HP2, hb⟩
              refine hK.out _ _ (hH.trans hb) (fun hH' => ?_)
              clear hK K hH
              have hH := hH'
              clear hH'
              try simp only [List.setIfInBounds_toArray, List.set]
              replace O1 : Hid (Ow V98 g1 T1 X1) := O1.out.later hb
              replace O2 : Hid (Ow V98 g2 T2 X2) := O2.out.later hb
              replace hD : Hid (V98.there bw 0 16) := there_later hb hD.out
              replace HP1 : Hid (Rd V98 (some ⟨g3, 0, none⟩) 8 8 (lay 8 (la : Int))) := HP1.out.below hb
              clear hb
              refine wpAnyH_ready (rs := [15]) (by kernel_rfl) (by simp) ?_
              refine AllReadyH.cons (o := ?od99) ?hd99 (fun K hK => ?sd99) AllReadyH.nil
              case hd99 => simp only [List.getElem?_toArray]; rfl
              case sd99 =>
                go_simp
                have hb := bel1 V98 (.cells #[.slice (some ⟨g1, 0, none⟩) T1 T1, .slice (some ⟨g2, 0, none⟩) T2 T2, .slice (some ⟨g3, 0, none⟩) 8 8, .slice (some ⟨g4, 0, none⟩) 8 8] 23)
                obtain ⟨gr, hgr⟩ : ∃ g, g = V98.heap.size := ⟨_, rfl⟩
                have HRL : Hid (RdL (V98.alloc (.cells #[.slice (some ⟨g1, 0, none⟩) T1 T1, .slice (some ⟨g2, 0, none⟩) T2 T2, .slice (some ⟨g3, 0, none⟩) 8 8, .slice (some ⟨g4, 0, none⟩) 8 8] 23)) (some ⟨gr, 0, none⟩) 4 [X1, X2, lay 8 (la : Int), lay 8 (lt : Int)]) := by rw [hgr]; exact RdL.four V98 _ _ _ _ _ _ _ _ _ _ _ _ _ _ _ _ 23 O1.out.rd O2.out.rd HP1.out HP2.out
                rw [← hgr]
                clear hgr
                refine hK.out _ _ (hH.trans hb) (fun hH' => ?_)
                clear hK K hH
                have hH := hH'
                clear hH'
                try simp only [List.setIfInBounds_toArray, List.set]
                obtain ⟨V101, hnew⟩ : ∃ v, v = (V98.alloc (.cells #[.slice (some ⟨g1, 0, none⟩) T1 T1, .slice (some ⟨g2, 0, none⟩) T2 T2, .slice (some ⟨g3, 0, none⟩) 8 8, .slice (some ⟨g4, 0, none⟩) 8 8] 23)) := ⟨_, rfl⟩
                rw [← hnew] at hb hH HRL ⊢
                replace hD : Hid (V101.there bw 0 16) := there_later hb hD.out
                clear hb hnew
                clear O1 O2 HP1 HP2
                refine wpAnyH_ready (rs := [16]) (by kernel_rfl) (by simp) ?_
                refine AllReadyH.cons (o := ?od102) ?hd102 (fun K hK => ?sd102) AllReadyH.nil
                case hd102 => simp only [List.getElem?_toArray]; rfl
                case sd102 =>
                  go_simp
                  have HMT : Hid ([X1, X2, lay 8 (la : Int), lay 8 (lt : Int)].flatten = mt6 ad H) := made_flat HX1.out HX2.out HLA.out HLH.out
                  refine (join_l _ _ _ _ _ HRL.out (by decide) (by rw [HMT.out]; exact hml) (by rw [HMT.out]; exact mt6_byt HBA.out HBH.out)).mono ?_
                  rintro e V104 ⟨gj, T6, Xj, rfl, HTj, HXj, HOj, -, hb⟩
                  have hT6 : T6 ≤ 281474976710656 := by rw [HTj.out, HMT.out]; exact hml
                  replace HXj : Hid (Xj = mt6 ad H) := by unfold Hid; rw [HXj.out, HMT.out]
                  refine hK.out _ _ (hH.trans hb) (fun hH' => ?_)
                  clear hK K hH
                  have hH := hH'
                  clear hH'
                  try simp only [List.setIfInBounds_toArray, List.set]
                  replace hD : Hid (V104.there bw 0 16) := there_later hb hD.out
                  replace HRL : Hid (RdL V104 (some ⟨gr, 0, none⟩) 4 [X1, X2, lay 8 (la : Int), lay 8 (lt : Int)]) := HRL.out.later hb
                  clear hb
                  refine wpAnyH_ready (rs := [17]) (by kernel_rfl) (by simp) ?_
                  refine AllReadyH.cons (o := ?od105) ?hd105 (fun K hK => ?sd105) AllReadyH.nil
                  case hd105 => simp only [List.getElem?_toArray]; rfl
                  case sd105 =>
                    go_simp
                    refine (tag_c (some ⟨gj, 0, none⟩) T6 T6 B2 Xj HBt.out _ HOj.out.rd hT6).mono ?_
                    rintro e V107 ⟨TG, rfl, HTG, hTG, hb⟩
                    have HTn : Hid (Bn 16 TG) := hTG
                    have HTE : Hid (TG = tt6 key nonce ad H) := by unfold Hid tt6; rw [HTG.out, HB2.out, HXj.out]
                    refine hK.out _ _ (hH.trans hb) (fun hH' => ?_)
                    clear hK K hH
                    have hH := hH'
                    clear hH'
                    try simp only [List.setIfInBounds_toArray, List.set]
                    replace hD : Hid (V107.there bw 0 16) := there_later hb hD.out
                    replace HRL : Hid (RdL V107 (some ⟨gr, 0, none⟩) 4 [X1, X2, lay 8 (la : Int), lay 8 (lt : Int)]) := HRL.out.later hb
                    replace HOj : Hid (Ow V107 gj T6 Xj) := HOj.out.later hb
                    clear hb
                    obtain ⟨hlenw, honew, hiw⟩ := bn16_cells HTn.out
                    obtain ⟨csw, hcsw⟩ : ∃ cs, cs = (List.map (Value.int .u8) TG) := ⟨_, rfl⟩
                    rw [← hcsw] at hlenw honew hiw ⊢
                    have HCW : Hid (csw = (List.map (Value.int .u8) TG)) := hcsw
                    clear hcsw
                    refine wpAnyH_ready (rs := [19]) (by kernel_rfl) (by simp) ?_
                    refine AllReadyH.cons (o := ?od108) ?hd108 (fun K hK => ?_) AllReadyH.nil
                    case hd108 => simp only [List.getElem?_toArray]; rfl
                    refine wp_store_mid 40 (.tmp 14) (.tmp 57) rfl bw 0 csw.toArray rfl rfl (by simpa [hlenw] using hD.out) (by simpa using hiw) (all_oneCell_toArray honew) ?_
                    refine hK.out _ _ (below_setCells _ (by omega) _ _ _ hH) (fun hH' => ?_)
                    clear hK K hH
                    have hH := hH'
                    clear hH'
                    try simp only [List.setIfInBounds_toArray, List.set]
                    refine wpAnyH_done (by kernel_rfl) ?_ _
                    refine NoPanic.normal ?_
                    go_wp2_with fail
                    go_meet
                    case rel => exact ⟨bw, TG, rfl, HTE, HTn.out, by rw [← HCW.out]; exact Ar.all_set hD.out hlenw, hLw, hH⟩
      case sd22 =>
        go_simp
        have hLw : Y.heap.size ≤ V20.heap.size := hH.size
        have hD : Hid ((V20.alloc (.cells #[.int .u8 0, .int .u8 0, .int .u8 0, .int .u8 0, .int .u8 0, .int .u8 0, .int .u8 0, .int .u8 0, .int .u8 0, .int .u8 0, .int .u8 0, .int .u8 0, .int .u8 0, .int .u8 0, .int .u8 0, .int .u8 0] 40)).there V20.heap.size 0 16) := there_new V20 16 #[.int .u8 0, .int .u8 0, .int .u8 0, .int .u8 0, .int .u8 0, .int .u8 0, .int .u8 0, .int .u8 0, .int .u8 0, .int .u8 0, .int .u8 0, .int .u8 0, .int .u8 0, .int .u8 0, .int .u8 0, .int .u8 0] rfl 40
        have hb := bel1 V20 (.cells #[.int .u8 0, .int .u8 0, .int .u8 0, .int .u8 0, .int .u8 0, .int .u8 0, .int .u8 0, .int .u8 0, .int .u8 0, .int .u8 0, .int .u8 0, .int .u8 0, .int .u8 0, .int .u8 0, .int .u8 0, .int .u8 0] 40)
        refine hK.out _ _ (hH.trans hb) (fun hH' => ?_)
        clear hK K hH
        have hH := hH'
        clear hH'
        try simp only [List.setIfInBounds_toArray, List.set]
        obtain ⟨x110, hnew⟩ : ∃ v, v = V20.alloc (.cells #[.int .u8 0, .int .u8 0, .int .u8 0, .int .u8 0, .int .u8 0, .int .u8 0, .int .u8 0, .int .u8 0, .int .u8 0, .int .u8 0, .int .u8 0, .int .u8 0, .int .u8 0, .int .u8 0, .int .u8 0, .int .u8 0] 40) := ⟨_, rfl⟩
        obtain ⟨bw, hbw⟩ : ∃ v, v = V20.heap.size := ⟨_, rfl⟩
        rw [← hnew] at hb hD hH ⊢
        rw [← hbw] at hD hLw ⊢
        replace O1 : Hid (Ow x110 g1 T1 X1) := O1.out.later hb
        clear hb hnew hbw
        refine wpAnyH_ready (rs := [6]) (by kernel_rfl) (by simp) ?_
        refine AllReadyH.cons (o := ?od111) ?hd111 (fun K hK => ?sd111) AllReadyH.nil
        case hd111 => simp only [List.getElem?_toArray]; rfl
        case sd111 =>
          go_simp
          refine (fillup_c (some ⟨gh, 0, none⟩) lt lt H hm _ ((OH.out.later hH).rd)).mono ?_
          rintro e V113 ⟨g2, T2, X2, rfl, hT2, HX2, O2, hb⟩
          refine hK.out _ _ (hH.trans hb) (fun hH' => ?_)
          clear hK K hH
          have hH := hH'
          clear hH'
          try simp only [List.setIfInBounds_toArray, List.set]
          replace O1 : Hid (Ow V113 g1 T1 X1) := O1.out.later hb
          replace hD : Hid (V113.there bw 0 16) := there_later hb hD.out
          clear hb
          refine wpAnyH_ready (rs := [10]) (by kernel_rfl) (by simp) ?_
          refine AllReadyH.cons (o := ?od114) ?hd114 (fun K hK => ?sd114) AllReadyH.nil
          case hd114 => simp only [List.getElem?_toArray]; rfl
          case sd114 =>
            go_simp
            refine (put64_g (la : Int) _ ⟨by omega, by omega⟩).mono ?_
            rintro e V116 ⟨g3, rfl, HP1, hb⟩
            refine hK.out _ _ (hH.trans hb) (fun hH' => ?_)
            clear hK K hH
            have hH := hH'
            clear hH'
            try simp only [List.setIfInBounds_toArray, List.set]
            replace O1 : Hid (Ow V116 g1 T1 X1) := O1.out.later hb
            replace hD : Hid (V116.there bw 0 16) := there_later hb hD.out
            replace O2 : Hid (Ow V116 g2 T2 X2) := O2.out.later hb
            clear hb
            refine wpAnyH_ready (rs := [14]) (by kernel_rfl) (by simp) ?_
            refine AllReadyH.cons (o := ?od117) ?hd117 (fun K hK => ?sd117) AllReadyH.nil
            case hd117 => simp only [List.getElem?_toArray]; rfl
            case sd117 =>
              go_simp
              refine (put64_g (lt : Int) _ ⟨by omega, by omega⟩).mono ?_
              rintro e V119 ⟨g4, rfl, HP2, hb⟩
              refine hK.out _ _ (hH.trans hb) (fun hH' => ?_)
              clear hK K hH
              have hH := hH'
              clear hH'
              try simp only [List.setIfInBounds_toArray, List.set]
              replace O1 : Hid (Ow V119 g1 T1 X1) := O1.out.later hb
              replace hD : Hid (V119.there bw 0 16) := there_later hb hD.out
              replace O2 : Hid (Ow V119 g2 T2 X2) := O2.out.later hb
              replace HP1 : Hid (Rd V119 (some ⟨g3, 0, none⟩) 8 8 (lay 8 (la : Int))) := HP1.out.below hb
              clear hb
              refine wpAnyH_ready (rs := [15]) (by kernel_rfl) (by simp) ?_
              refine AllReadyH.cons (o := ?od120) ?hd120 (fun K hK => ?sd120) AllReadyH.nil
              case hd120 => simp only [List.getElem?_toArray]; rfl
              case sd120 =>
                go_simp
                have hb := bel1 V119 (.cells #[.slice (some ⟨g1, 0, none⟩) T1 T1, .slice (some ⟨g2, 0, none⟩) T2 T2, .slice (some ⟨g3, 0, none⟩) 8 8, .slice (some ⟨g4, 0, none⟩) 8 8] 23)
                obtain ⟨gr, hgr⟩ : ∃ g, g = V119.heap.size := ⟨_, rfl⟩
                have HRL : Hid (RdL (V119.alloc (.cells #[.slice (some ⟨g1, 0, none⟩) T1 T1, .slice (some ⟨g2, 0, none⟩) T2 T2, .slice (some ⟨g3, 0, none⟩) 8 8, .slice (some ⟨g4, 0, none⟩) 8 8] 23)) (some ⟨gr, 0, none⟩) 4 [X1, X2, lay 8 (la : Int), lay 8 (lt : Int)]) := by rw [hgr]; exact RdL.four V119 _ _ _ _ _ _ _ _ _ _ _ _ _ _ _ _ 23 O1.out.rd O2.out.rd HP1.out HP2.out
                rw [← hgr]
                clear hgr
                refine hK.out _ _ (hH.trans hb) (fun hH' => ?_)
                clear hK K hH
                have hH := hH'
                clear hH'
                try simp only [List.setIfInBounds_toArray, List.set]
                obtain ⟨V122, hnew⟩ : ∃ v, v = (V119.alloc (.cells #[.slice (some ⟨g1, 0, none⟩) T1 T1, .slice (some ⟨g2, 0, none⟩) T2 T2, .slice (some ⟨g3, 0, none⟩) 8 8, .slice (some ⟨g4, 0, none⟩) 8 8] 23)) := ⟨_, rfl⟩
                rw [← hnew] at hb hH HRL ⊢
                replace hD : Hid (V122.there bw 0 16) := there_later hb hD.out
                clear hb hnew
                clear O1 O2 HP1 HP2
                refine wpAnyH_ready (rs := [16]) (by kernel_rfl) (by simp) ?_
                refine AllReadyH.cons (o := ?od123) ?hd123 (fun K hK => ?sd123) AllReadyH.nil
                case hd123 => simp only [List.getElem?_toArray]; rfl
                case sd123 =>
                  go_simp
                  have HMT : Hid ([X1, X2, lay 8 (la : Int), lay 8 (lt : Int)].flatten = mt6 ad H) := made_flat HX1.out HX2.out HLA.out HLH.out
                  refine (join_l _ _ _ _ _ HRL.out (by decide) (by rw [HMT.out]; exact hml) (by rw [HMT.out]; exact mt6_byt HBA.out HBH.out)).mono ?_
                  rintro e V125 ⟨gj, T6, Xj, rfl, HTj, HXj, HOj, -, hb⟩
                  have hT6 : T6 ≤ 281474976710656 := by rw [HTj.out, HMT.out]; exact hml
                  replace HXj : Hid (Xj = mt6 ad H) := by unfold Hid; rw [HXj.out, HMT.out]
                  refine hK.out _ _ (hH.trans hb) (fun hH' => ?_)
                  clear hK K hH
                  have hH := hH'
                  clear hH'
                  try simp only [List.setIfInBounds_toArray, List.set]
                  replace hD : Hid (V125.there bw 0 16) := there_later hb hD.out
                  replace HRL : Hid (RdL V125 (some ⟨gr, 0, none⟩) 4 [X1, X2, lay 8 (la : Int), lay 8 (lt : Int)]) := HRL.out.later hb
                  clear hb
                  refine wpAnyH_ready (rs := [17]) (by kernel_rfl) (by simp) ?_
                  refine AllReadyH.cons (o := ?od126) ?hd126 (fun K hK => ?sd126) AllReadyH.nil
                  case hd126 => simp only [List.getElem?_toArray]; rfl
                  case sd126 =>
                    go_simp
                    refine (tag_c (some ⟨gj, 0, none⟩) T6 T6 B2 Xj HBt.out _ HOj.out.rd hT6).mono ?_
                    rintro e V128 ⟨TG, rfl, HTG, hTG, hb⟩
                    have HTn : Hid (Bn 16 TG) := hTG
                    have HTE : Hid (TG = tt6 key nonce ad H) := by unfold Hid tt6; rw [HTG.out, HB2.out, HXj.out]
                    refine hK.out _ _ (hH.trans hb) (fun hH' => ?_)
                    clear hK K hH
                    have hH := hH'
                    clear hH'
                    try simp only [List.setIfInBounds_toArray, List.set]
                    replace hD : Hid (V128.there bw 0 16) := there_later hb hD.out
                    replace HRL : Hid (RdL V128 (some ⟨gr, 0, none⟩) 4 [X1, X2, lay 8 (la : Int), lay 8 (lt : Int)]) := HRL.out.later hb
                    replace HOj : Hid (Ow V128 gj T6 Xj) := HOj.out.later hb
                    clear hb
                    obtain ⟨hlenw, honew, hiw⟩ := bn16_cells HTn.out
                    obtain ⟨csw, hcsw⟩ : ∃ cs, cs = (List.map (Value.int .u8) TG) := ⟨_, rfl⟩
                    rw [← hcsw] at hlenw honew hiw ⊢
                    have HCW : Hid (csw = (List.map (Value.int .u8) TG)) := hcsw
                    clear hcsw
                    refine wpAnyH_ready (rs := [19]) (by kernel_rfl) (by simp) ?_
                    refine AllReadyH.cons (o := ?od129) ?hd129 (fun K hK => ?_) AllReadyH.nil
                    case hd129 => simp only [List.getElem?_toArray]; rfl
                    refine wp_store_mid 40 (.tmp 14) (.tmp 57) rfl bw 0 csw.toArray rfl rfl (by simpa [hlenw] using hD.out) (by simpa using hiw) (all_oneCell_toArray honew) ?_
                    refine hK.out _ _ (below_setCells _ (by omega) _ _ _ hH) (fun hH' => ?_)
                    clear hK K hH
                    have hH := hH'
                    clear hH'
                    try simp only [List.setIfInBounds_toArray, List.set]
                    refine wpAnyH_done (by kernel_rfl) ?_ _
                    refine NoPanic.normal ?_
                    go_wp2_with fail
                    go_meet
                    case rel => exact ⟨bw, TG, rfl, HTE, HTn.out, by rw [← HCW.out]; exact Ar.all_set hD.out hlenw, hLw, hH⟩
    case sd18 =>
      go_simp
      have hLw : Y.heap.size ≤ y0.heap.size := hH.size
      have hD : Hid ((y0.alloc (.cells #[.int .u8 0, .int .u8 0, .int .u8 0, .int .u8 0, .int .u8 0, .int .u8 0, .int .u8 0, .int .u8 0, .int .u8 0, .int .u8 0, .int .u8 0, .int .u8 0, .int .u8 0, .int .u8 0, .int .u8 0, .int .u8 0] 40)).there y0.heap.size 0 16) := there_new y0 16 #[.int .u8 0, .int .u8 0, .int .u8 0, .int .u8 0, .int .u8 0, .int .u8 0, .int .u8 0, .int .u8 0, .int .u8 0, .int .u8 0, .int .u8 0, .int .u8 0, .int .u8 0, .int .u8 0, .int .u8 0, .int .u8 0] rfl 40
      have hb := bel1 y0 (.cells #[.int .u8 0, .int .u8 0, .int .u8 0, .int .u8 0, .int .u8 0, .int .u8 0, .int .u8 0, .int .u8 0, .int .u8 0, .int .u8 0, .int .u8 0, .int .u8 0, .int .u8 0, .int .u8 0, .int .u8 0, .int .u8 0] 40)
      refine hK.out _ _ (hH.trans hb) (fun hH' => ?_)
      clear hK K hH
      have hH := hH'
      clear hH'
      try simp only [List.setIfInBounds_toArray, List.set]
      obtain ⟨x131, hnew⟩ : ∃ v, v = y0.alloc (.cells #[.int .u8 0, .int .u8 0, .int .u8 0, .int .u8 0, .int .u8 0, .int .u8 0, .int .u8 0, .int .u8 0, .int .u8 0, .int .u8 0, .int .u8 0, .int .u8 0, .int .u8 0, .int .u8 0, .int .u8 0, .int .u8 0] 40) := ⟨_, rfl⟩
      obtain ⟨bw, hbw⟩ : ∃ v, v = y0.heap.size := ⟨_, rfl⟩
      rw [← hnew] at hb hD hH ⊢
      rw [← hbw] at hD hLw ⊢
      clear hb hnew hbw
      refine wpAnyH_ready (rs := [3]) (by kernel_rfl) (by simp) ?_
      refine AllReadyH.cons (o := ?od132) ?hd132 (fun K hK => ?sd132) AllReadyH.nil
      case hd132 => simp only [List.getElem?_toArray]; rfl
      case sd132 =>
        go_simp
        refine (fillup_c aa la ca ad ha _ (HRA.out.below hH)).mono ?_
        rintro e V134 ⟨g1, T1, X1, rfl, hT1, HX1, O1, hb⟩
        refine hK.out _ _ (hH.trans hb) (fun hH' => ?_)
        clear hK K hH
        have hH := hH'
        clear hH'
        try simp only [List.setIfInBounds_toArray, List.set]
        replace hD : Hid (V134.there bw 0 16) := there_later hb hD.out
        clear hb
        refine wpAnyH_ready (rs := [6]) (by kernel_rfl) (by simp) ?_
        refine AllReadyH.cons (o := ?od135) ?hd135 (fun K hK => ?sd135) AllReadyH.nil
        case hd135 => simp only [List.getElem?_toArray]; rfl
        case sd135 =>
          go_simp
          refine (fillup_c (some ⟨gh, 0, none⟩) lt lt H hm _ ((OH.out.later hH).rd)).mono ?_
          rintro e V137 ⟨g2, T2, X2, rfl, hT2, HX2, O2, hb⟩
          refine hK.out _ _ (hH.trans hb) (fun hH' => ?_)
          clear hK K hH
          have hH := hH'
          clear hH'
          try simp only [List.setIfInBounds_toArray, List.set]
          replace hD : Hid (V137.there bw 0 16) := there_later hb hD.out
          replace O1 : Hid (Ow V137 g1 T1 X1) := O1.out.later hb
          clear hb
          refine wpAnyH_ready (rs := [10]) (by kernel_rfl) (by simp) ?_
          refine AllReadyH.cons (o := ?od138) ?hd138 (fun K hK => ?sd138) AllReadyH.nil
          case hd138 => simp only [List.getElem?_toArray]; rfl
          case sd138 =>
            go_simp
            refine (put64_g (la : Int) _ ⟨by omega, by omega⟩).mono ?_
            rintro e V140 ⟨g3, rfl, HP1, hb⟩
            refine hK.out _ _ (hH.trans hb) (fun hH' => ?_)
            clear hK K hH
            have hH := hH'
            clear hH'
            try simp only [List.setIfInBounds_toArray, List.set]
            replace hD : Hid (V140.there bw 0 16) := there_later hb hD.out
            replace O1 : Hid (Ow V140 g1 T1 X1) := O1.out.later hb
            replace O2 : Hid (Ow V140 g2 T2 X2) := O2.out.later hb
            clear hb
            refine wpAnyH_ready (rs := [14]) (by kernel_rfl) (by simp) ?_
            refine AllReadyH.cons (o := ?od141) ?hd141 (fun K hK => ?sd141) AllReadyH.nil
            case hd141 => simp only [List.getElem?_toArray]; rfl
            case sd141 =>
              go_simp
              refine (put64_g (lt : Int) _ ⟨by omega, by omega⟩).mono ?_
              rintro e V143 ⟨g4, rfl, HP2, hb⟩
              refine hK.out _ _ (hH.trans hb) (fun hH' => ?_)
              clear hK K hH
              have hH := hH'
              clear hH'
              try simp only [List.setIfInBounds_toArray, List.set]
              replace hD : Hid (V143.there bw 0 16) := there_later hb hD.out
              replace O1 : Hid (Ow V143 g1 T1 X1) := O1.out.later hb
              replace O2 : Hid (Ow V143 g2 T2 X2) := O2.out.later hb
              replace HP1 : Hid (Rd V143 (some ⟨g3, 0, none⟩) 8 8 (lay 8 (la : Int))) := HP1.out.below hb
              clear hb
              refine wpAnyH_ready (rs := [15]) (by kernel_rfl) (by simp) ?_
              refine AllReadyH.cons (o := ?od144) ?hd144 (fun K hK => ?sd144) AllReadyH.nil
              case hd144 => simp only [List.getElem?_toArray]; rfl
              case sd144 =>
                go_simp
                have hb := bel1 V143 (.cells #[.slice (some ⟨g1, 0, none⟩) T1 T1, .slice (some ⟨g2, 0, none⟩) T2 T2, .slice (some ⟨g3, 0, none⟩) 8 8, .slice (some ⟨g4, 0, none⟩) 8 8] 23)
                obtain ⟨gr, hgr⟩ : ∃ g, g = V143.heap.size := ⟨_, rfl⟩
                have HRL : Hid (RdL (V143.alloc (.cells #[.slice (some ⟨g1, 0, none⟩) T1 T1, .slice (some ⟨g2, 0, none⟩) T2 T2, .slice (some ⟨g3, 0, none⟩) 8 8, .slice (some ⟨g4, 0, none⟩) 8 8] 23)) (some ⟨gr, 0, none⟩) 4 [X1, X2, lay 8 (la : Int), lay 8 (lt : Int)]) := by rw [hgr]; exact RdL.four V143 _ _ _ _ _ _ _ _ _ _ _ _ _ _ _ _ 23 O1.out.rd O2.out.rd HP1.out HP2.out
                rw [← hgr]
                clear hgr
                refine hK.out _ _ (hH.trans hb) (fun hH' => ?_)
                clear hK K hH
                have hH := hH'
                clear hH'
                try simp only [List.setIfInBounds_toArray, List.set]
                obtain ⟨V146, hnew⟩ : ∃ v, v = (V143.alloc (.cells #[.slice (some ⟨g1, 0, none⟩) T1 T1, .slice (some ⟨g2, 0, none⟩) T2 T2, .slice (some ⟨g3, 0, none⟩) 8 8, .slice (some ⟨g4, 0, none⟩) 8 8] 23)) := ⟨_, rfl⟩
                rw [← hnew] at hb hH HRL ⊢
                replace hD : Hid (V146.there bw 0 16) := there_later hb hD.out
                clear hb hnew
                clear O1 O2 HP1 HP2
                refine wpAnyH_ready (rs := [16]) (by kernel_rfl) (by simp) ?_
                refine AllReadyH.cons (o := ?od147) ?hd147 (fun K hK => ?sd147) AllReadyH.nil
                case hd147 => simp only [List.getElem?_toArray]; rfl
                case sd147 =>
                  go_simp
                  have HMT : Hid ([X1, X2, lay 8 (la : Int), lay 8 (lt : Int)].flatten = mt6 ad H) := made_flat HX1.out HX2.out HLA.out HLH.out
                  refine (join_l _ _ _ _ _ HRL.out (by decide) (by rw [HMT.out]; exact hml) (by rw [HMT.out]; exact mt6_byt HBA.out HBH.out)).mono ?_
                  rintro e V149 ⟨gj, T6, Xj, rfl, HTj, HXj, HOj, -, hb⟩
                  have hT6 : T6 ≤ 281474976710656 := by rw [HTj.out, HMT.out]; exact hml
                  replace HXj : Hid (Xj = mt6 ad H) := by unfold Hid; rw [HXj.out, HMT.out]
                  refine hK.out _ _ (hH.trans hb) (fun hH' => ?_)
                  clear hK K hH
                  have hH := hH'
                  clear hH'
                  try simp only [List.setIfInBounds_toArray, List.set]
                  replace hD : Hid (V149.there bw 0 16) := there_later hb hD.out
                  replace HRL : Hid (RdL V149 (some ⟨gr, 0, none⟩) 4 [X1, X2, lay 8 (la : Int), lay 8 (lt : Int)]) := HRL.out.later hb
                  clear hb
                  refine wpAnyH_ready (rs := [17]) (by kernel_rfl) (by simp) ?_
                  refine AllReadyH.cons (o := ?od150) ?hd150 (fun K hK => ?sd150) AllReadyH.nil
                  case hd150 => simp only [List.getElem?_toArray]; rfl
                  case sd150 =>
                    go_simp
                    refine (tag_c (some ⟨gj, 0, none⟩) T6 T6 B2 Xj HBt.out _ HOj.out.rd hT6).mono ?_
                    rintro e V152 ⟨TG, rfl, HTG, hTG, hb⟩
                    have HTn : Hid (Bn 16 TG) := hTG
                    have HTE : Hid (TG = tt6 key nonce ad H) := by unfold Hid tt6; rw [HTG.out, HB2.out, HXj.out]
                    refine hK.out _ _ (hH.trans hb) (fun hH' => ?_)
                    clear hK K hH
                    have hH := hH'
                    clear hH'
                    try simp only [List.setIfInBounds_toArray, List.set]
                    replace hD : Hid (V152.there bw 0 16) := there_later hb hD.out
                    replace HRL : Hid (RdL V152 (some ⟨gr, 0, none⟩) 4 [X1, X2, lay 8 (la : Int), lay 8 (lt : Int)]) := HRL.out.later hb
                    replace HOj : Hid (Ow V152 gj T6 Xj) := HOj.out.later hb
                    clear hb
                    obtain ⟨hlenw, honew, hiw⟩ := bn16_cells HTn.out
                    obtain ⟨csw, hcsw⟩ : ∃ cs, cs = (List.map (Value.int .u8) TG) := ⟨_, rfl⟩
                    rw [← hcsw] at hlenw honew hiw ⊢
                    have HCW : Hid (csw = (List.map (Value.int .u8) TG)) := hcsw
                    clear hcsw
                    refine wpAnyH_ready (rs := [19]) (by kernel_rfl) (by simp) ?_
                    refine AllReadyH.cons (o := ?od153) ?hd153 (fun K hK => ?_) AllReadyH.nil
                    case hd153 => simp only [List.getElem?_toArray]; rfl
                    refine wp_store_mid 40 (.tmp 14) (.tmp 57) rfl bw 0 csw.toArray rfl rfl (by simpa [hlenw] using hD.out) (by simpa using hiw) (all_oneCell_toArray honew) ?_
                    refine hK.out _ _ (below_setCells _ (by omega) _ _ _ hH) (fun hH' => ?_)
                    clear hK K hH
                    have hH := hH'
                    clear hH'
                    try simp only [List.setIfInBounds_toArray, List.set]
                    refine wpAnyH_done (by kernel_rfl) ?_ _
                    refine NoPanic.normal ?_
                    go_wp2_with fail
                    go_meet
                    case rel => exact ⟨bw, TG, rfl, HTE, HTn.out, by rw [← HCW.out]; exact Ar.all_set hD.out hlenw, hLw, hH⟩
  case rest =>
    obtain ⟨b14, TG, rfl, HTG, HTn, A14, -, hX⟩ := hcut
    generalize wc = Y1 at *
    have hb := hX.out
    clear hX A12 hi12
    replace OB : Hid (Ow Y1 gB mB XB) := OB.out.later hb
    replace OH : Hid (Ow Y1 gh lt H) := OH.out.later hb
    replace HB : Hid (Below w.heap.size w Y1) := HB.out.trans (hb.mono HB.out.size)
    clear hb
    have HEQ : Hid (strOfNums H ++ strOfNums TG = strOfNums XB) := by
      unfold Hid
      rw [str_app, HXB.out, HTG.out, HH.out]
      rfl
    have hsum := HEQ.out
    have hcat : ¬ 9223372036854775807 < (strOfNums H).size + (strOfNums TG).size := by rw [str_size, str_size, HLH.out, HTn.out.len]; omega
    have s1 : ∀ u, Ext Y1 u → (convert 23 9 (.slice (some ⟨gB, 0, none⟩) mB mB)).run Try.prog u = .ok (.string (strOfNums XB)) u := fun u hu => str_of (OB.out.later hu).rd
    have s2 : ∀ u, Ext Y1 u → (convert 23 9 (.slice (some ⟨gh, 0, none⟩) lt lt)).run Try.prog u = .ok (.string (strOfNums H)) u := fun u hu => str_of (OH.out.later hu).rd
    have s3 : ∀ u, Ext Y1 u → (convert 23 9 (.slice (some ⟨b14, 0, none⟩) 16 16)).run Try.prog u = .ok (.string (strOfNums TG)) u := fun u hu => str_of ((A14.out.later hu).rd_all HTn.out.byt 16 (by decide))
    go_upto_region 10 with fail
    refine wp_region_noPanic ?_
    refine wp_region_held_drew (S := Ext Y1) (by kernel_rfl) (Ext.refl _).drew (fun hH => ?_)
    change wpAnyH _ _ _ _ _ _ #[false, false, false, false, false, false, false, false, false] _ _
    refine wpAnyH_take (i := 0) (oi := ?o0e) (v := ?v0e) ?h0e (by kernel_rfl) ?f0e ?r0e (fun _ _ _ h => h) (Or.inl ⟨?w0e, ?y0e⟩) (by assumption) ?t0e
    case h0e => simp only [List.getElem?_toArray]; rfl
    case f0e => kernel_rfl
    case r0e => kernel_rfl
    case w0e => rfl
    case y0e => (intro u hu; (go_simp) <;> with_reducible rfl)
    try simp only [Act.put, List.setIfInBounds_toArray, List.set_cons_zero, List.set_cons_succ]
    refine wpAnyH_take (i := 1) (oi := ?o1e) (v := ?v1e) ?h1e (by kernel_rfl) ?f1e ?r1e (fun _ _ _ h => h) (Or.inl ⟨?w1e, ?y1e⟩) (by assumption) ?t1e
    case h1e => simp only [List.getElem?_toArray]; rfl
    case f1e => kernel_rfl
    case r1e => kernel_rfl
    case w1e => rfl
    case y1e => (intro u hu; (go_simp) <;> with_reducible rfl)
    try simp only [Act.put, List.setIfInBounds_toArray, List.set_cons_zero, List.set_cons_succ]
    refine wpAnyH_take (i := 2) (oi := ?o2e) (v := ?v2e) ?h2e (by kernel_rfl) ?f2e ?r2e (fun _ _ _ h => h) (Or.inl ⟨?w2e, ?y2e⟩) (by assumption) ?t2e
    case h2e => simp only [List.getElem?_toArray]; rfl
    case f2e => kernel_rfl
    case r2e => kernel_rfl
    case w2e => rfl
    case y2e => (intro u hu; (go_simp) <;> with_reducible rfl)
    try simp only [Act.put, List.setIfInBounds_toArray, List.set_cons_zero, List.set_cons_succ]
    refine wpAnyH_take (i := 3) (oi := ?o3e) (v := ?v3e) ?h3e (by kernel_rfl) ?f3e ?r3e (fun _ _ _ h => h) (Or.inl ⟨?w3e, ?y3e⟩) (by assumption) ?t3e
    case h3e => simp only [List.getElem?_toArray]; rfl
    case f3e => kernel_rfl
    case r3e => kernel_rfl
    case w3e => rfl
    case y3e => (intro u hu; (go_simp) <;> with_reducible rfl)
    try simp only [Act.put, List.setIfInBounds_toArray, List.set_cons_zero, List.set_cons_succ]
    refine wpAnyH_take (i := 4) (oi := ?o4e) (v := ?v4e) ?h4e (by kernel_rfl) ?f4e ?r4e (fun _ _ _ h => h) (Or.inl ⟨?w4e, ?y4e⟩) (by assumption) ?t4e
    case h4e => simp only [List.getElem?_toArray]; rfl
    case f4e => kernel_rfl
    case r4e => kernel_rfl
    case w4e => rfl
    case y4e => (intro u hu; (go_simp) <;> with_reducible rfl)
    try simp only [Act.put, List.setIfInBounds_toArray, List.set_cons_zero, List.set_cons_succ]
    refine wpAnyH_take (i := 5) (oi := ?o5e) (v := ?v5e) ?h5e (by kernel_rfl) ?f5e ?r5e (fun _ _ _ h => h) (Or.inl ⟨?w5e, ?y5e⟩) (by assumption) ?t5e
    case h5e => simp only [List.getElem?_toArray]; rfl
    case f5e => kernel_rfl
    case r5e => kernel_rfl
    case w5e => rfl
    case y5e => (intro u hu; (go_simp) <;> with_reducible rfl)
    try simp only [Act.put, List.setIfInBounds_toArray, List.set_cons_zero, List.set_cons_succ]
    refine wpAnyH_take (i := 6) (oi := ?o6e) (v := ?v6e) ?h6e (by kernel_rfl) ?f6e ?r6e (fun _ _ _ h => h) (Or.inl ⟨?w6e, ?y6e⟩) (by assumption) ?t6e
    case h6e => simp only [List.getElem?_toArray]; rfl
    case f6e => kernel_rfl
    case r6e => kernel_rfl
    case w6e => rfl
    case y6e => (intro u hu; (go_simp) <;> with_reducible rfl)
    try simp only [Act.put, List.setIfInBounds_toArray, List.set_cons_zero, List.set_cons_succ]
    refine wpAnyH_take (i := 7) (oi := ?o7e) (v := ?v7e) ?h7e (by kernel_rfl) ?f7e ?r7e (fun _ _ _ h => h) (Or.inl ⟨?w7e, ?y7e⟩) (by assumption) ?t7e
    case h7e => simp only [List.getElem?_toArray]; rfl
    case f7e => kernel_rfl
    case r7e => kernel_rfl
    case w7e => rfl
    case y7e => (intro u hu; (go_simp) <;> with_reducible rfl)
    try simp only [Act.put, List.setIfInBounds_toArray, List.set_cons_zero, List.set_cons_succ]
    refine wpAnyH_take (i := 8) (oi := ?o8e) (v := ?v8e) ?h8e (by kernel_rfl) ?f8e ?r8e (fun _ _ _ h => h) (Or.inl ⟨?w8e, ?y8e⟩) (by assumption) ?t8e
    case h8e => simp only [List.getElem?_toArray]; rfl
    case f8e => kernel_rfl
    case r8e => kernel_rfl
    case w8e => rfl
    case y8e => (intro u hu; (go_simp) <;> with_reducible rfl)
    try simp only [Act.put, List.setIfInBounds_toArray, List.set_cons_zero, List.set_cons_succ]
    refine wpAnyH_done (by kernel_rfl) ?_ _
    refine NoPanic.normal ?_
    have hEn : Below w.heap.size w Y1.drew := HB.out.drew
    clear hH s1 s2 s3 hsum
    go_wp2
    go_ret
    exact ⟨rfl, hEn⟩
end Go.Proofs.Ytppmodncljigcaa
