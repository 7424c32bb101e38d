/-
  Several texts of one's own, laid together. No statement of the seat is proved here.
-/
import Derived.Test.YtjmdgmbkkkoamaaDoorA6O
import Derived.Test.YtjmdgmbkkkoamaaDoorPk25
import Derived.Test.YtjmdgmbkkkoamaaDoorPk24
import Derived.Test.YtjmdgmbkkkoamaaDoorPk27
import Derived.Test.YtjmdgmbkkkoamaaDoorPRTag
import Derived.Test.YtjmdgmbkkkoamaaDoorRApp
/-
  An append of whatever bytes to a slice of one's own; picks of any number. No statement of the seat is proved here.
-/
namespace Go.Proofs.YtjmdgmbkkkoamaaDoor
open Go.RowKit

set_option maxRecDepth 8000 in
set_option maxHeartbeats 1000000 in
theorem pick_big (n m : Int) (hn : -9223372036854775808 ≤ n ∧ n ≤ 9223372036854775807) (hm : 1 ≤ m ∧ m ≤ 1099511627776) (w : World) :
    Calls Tryd.prog 6 #[.int .i64 n, .int .i64 m] w fun e w' => ∃ k, e = .returned (.int .i64 k) ∧ 0 ≤ k ∧ k < m ∧ w' = w := by
  obtain ⟨n0, n1⟩ := hn
  obtain ⟨m0, m1⟩ := hm
  have hl : n.tmod m < m := Int.tmod_lt_of_pos n (by omega)
  have hg : -m < n.tmod m := by
    have := Int.lt_tmod_of_pos n (show 0 < m by omega)
    omega
  by_cases h : 0 ≤ n.tmod m
  · go_enter Tryd.func6, Tryd.ntmps6
    go_wp2
    go_ret
    exact ⟨_, rfl, h, hl, rfl⟩
  · go_enter Tryd.func6, Tryd.ntmps6
    go_wp2
    go_ret
    exact ⟨_, rfl, by omega, by omega, rfl⟩
end Go.Proofs.YtjmdgmbkkkoamaaDoor
/-
  What the reference's Put64, Nonce and fill do. No statement of the seat is proved here.
-/
namespace Go.Proofs.YtjmdgmbkkkoamaaDoor
open Go.RowKit

set_option maxRecDepth 8000 in
set_option maxHeartbeats 1000000 in
theorem rput64_c (n : Int) (w : World) (h0 : 0 ≤ n) (h1 : n < 18446744073709551616) :
    Calls Tryd.prog 31 #[.int .u64 n] w fun e w' => ∃ g c, e = .returned (.slice (some ⟨g, 0, none⟩) 8 c) ∧ Hid (Rd w' (some ⟨g, 0, none⟩) 8 c (lay 8 n)) ∧ w.heap.size ≤ g ∧ Below w.heap.size w w' := by
  go_enter Tryd.func31, Tryd.ntmps31
  go_wp2_with fail
  refine (refput32_any _ _ (by omega) (by omega)).mono ?_
  rintro e w1 ⟨rfl, ho1, hb1⟩
  have HB : Hid (Below w.heap.size w w1) := hb1
  have HO : Hid (w1.ownsRow w.heap.size 5 1 (.slice (some ⟨w.heap.size, 0, none⟩) 4 4) 4 (List.map (Value.int .u8) (lay 4 (n % 4294967296)))) := ho1
  clear ho1 hb1
  go_wp2_with fail
  refine (refput32_any _ _ (by omega) (by omega)).mono ?_
  rintro e w2 ⟨rfl, ho2, hb2⟩
  replace HO : Hid (w2.ownsRow w.heap.size 5 1 (.slice (some ⟨w.heap.size, 0, none⟩) 4 4) 4 (List.map (Value.int .u8) (lay 4 (n % 4294967296)))) := own_later HO.out hb2
  have HR : Hid (Rd w2 (some ⟨w1.heap.size, 0, none⟩) 4 4 (lay 4 (n / 4294967296))) := Rd.owns (lay_byt _ _) ho2
  replace HB : Hid (Below w.heap.size w w2) := HB.out.trans (hb2.mono HB.out.size)
  clear ho2 hb2
  go_wp2_with (at_builtin; refine wpList_app_l rfl (.tmp 5) (.tmp 9) rfl w.heap.size _ 4 (lay 4 (n % 4294967296)) rfl HO.out _ 4 4 (lay 4 (n / 4294967296)) rfl HR.out (by decide) HB.out.size ?_)
  intro v' w3 hown hb3
  obtain ⟨a, c, rfl⟩ := owns_shape hown
  obtain ⟨g, rfl, hg, -⟩ := owns_block hown (by decide)
  have e : lay 4 (n % 4294967296) ++ lay 4 (n / 4294967296) = lay 8 n := by
    simp only [lay, List.cons_append, List.nil_append, List.cons.injEq, and_true]
    refine ⟨?_, ?_, ?_, ?_, ?_, ?_, ?_, ?_⟩ <;> omega
  rw [← List.map_append, e] at hown
  have HR8 : Hid (Rd w3 (some ⟨g, 0, none⟩) 8 c (lay 8 n)) := rd_own (lay_byt _ _) hown
  replace HB : Hid (Below w.heap.size w w3) := HB.out.trans hb3
  clear hown hb3 HO HR e
  go_wp2
  go_ret
  exact ⟨g, c, rfl, HR8, hg, HB.out⟩

set_option maxRecDepth 8000 in
set_option maxHeartbeats 2000000 in
theorem rnonce_c (m : Int) (h0 : 0 ≤ m) (h1 : m < 18446744073709551616) (w : World) :
    Calls Tryd.prog 22 #[.int .u64 m] w fun e w' => ∃ N, e = .returned (.agg (List.map (Value.int .u8) N).toArray) ∧ Hid (N = nn6 m) ∧ Hid (Bn 12 N) ∧ Below w.heap.size w w' := by
  go_enter Tryd.func22, Tryd.ntmps22
  go_upto_region 2 with fail
  have AD : Hid (((w.alloc (.cells #[.int .u8 0, .int .u8 0, .int .u8 0, .int .u8 0, .int .u8 0, .int .u8 0, .int .u8 0, .int .u8 0, .int .u8 0, .int .u8 0, .int .u8 0, .int .u8 0] 48)).alloc (.cells #[.int .u8 0, .int .u8 0, .int .u8 0, .int .u8 0, .int .u8 0, .int .u8 0, .int .u8 0, .int .u8 0, .int .u8 0, .int .u8 0, .int .u8 0, .int .u8 0] 48)).there w.heap.size 0 12) := there_later (bel1 _ _) (there_new w 12 #[.int .u8 0, .int .u8 0, .int .u8 0, .int .u8 0, .int .u8 0, .int .u8 0, .int .u8 0, .int .u8 0, .int .u8 0, .int .u8 0, .int .u8 0, .int .u8 0] rfl 48)
  have A3 : Hid (Ar ((w.alloc (.cells #[.int .u8 0, .int .u8 0, .int .u8 0, .int .u8 0, .int .u8 0, .int .u8 0, .int .u8 0, .int .u8 0, .int .u8 0, .int .u8 0, .int .u8 0, .int .u8 0] 48)).alloc (.cells #[.int .u8 0, .int .u8 0, .int .u8 0, .int .u8 0, .int .u8 0, .int .u8 0, .int .u8 0, .int .u8 0, .int .u8 0, .int .u8 0, .int .u8 0, .int .u8 0] 48)) (w.heap.size + 1) 12 (List.map (Value.int .u8) (List.replicate 12 0))) := by have := ar_box (w.alloc (.cells #[.int .u8 0, .int .u8 0, .int .u8 0, .int .u8 0, .int .u8 0, .int .u8 0, .int .u8 0, .int .u8 0, .int .u8 0, .int .u8 0, .int .u8 0, .int .u8 0] 48)) (List.map (Value.int .u8) (List.replicate 12 0)) 12 rfl 48; simpa [Hid] using this
  have HB : Hid (Below w.heap.size w ((w.alloc (.cells #[.int .u8 0, .int .u8 0, .int .u8 0, .int .u8 0, .int .u8 0, .int .u8 0, .int .u8 0, .int .u8 0, .int .u8 0, .int .u8 0, .int .u8 0, .int .u8 0] 48)).alloc (.cells #[.int .u8 0, .int .u8 0, .int .u8 0, .int .u8 0, .int .u8 0, .int .u8 0, .int .u8 0, .int .u8 0, .int .u8 0, .int .u8 0, .int .u8 0, .int .u8 0] 48))) := bel2 _ _ _
  generalize ((w.alloc (.cells #[.int .u8 0, .int .u8 0, .int .u8 0, .int .u8 0, .int .u8 0, .int .u8 0, .int .u8 0, .int .u8 0, .int .u8 0, .int .u8 0, .int .u8 0, .int .u8 0] 48)).alloc (.cells #[.int .u8 0, .int .u8 0, .int .u8 0, .int .u8 0, .int .u8 0, .int .u8 0, .int .u8 0, .int .u8 0, .int .u8 0, .int .u8 0, .int .u8 0, .int .u8 0] 48)) = W at *
  have k1 : w.heap.size < w.heap.size + 1 := by omega
  generalize w.heap.size + 1 = b3 at *
  go_wp2_with fail
  refine (rput64_c m _ h0 h1).mono ?_
  rintro e V ⟨g, c, rfl, HP, hg, hb⟩
  have hne : g ≠ b3 := by have := A3.out.lt (by decide); omega
  replace AD : Hid (V.there w.heap.size 0 12) := there_later hb AD.out
  replace A3 : Hid (Ar V b3 12 (List.map (Value.int .u8) (List.replicate 12 0))) := A3.out.later hb
  replace HB : Hid (Below w.heap.size w V) := HB.out.trans (hb.mono HB.out.size)
  clear hb
  have A4 : Hid (Ar V b3 12 (List.map (Value.int .u8) ((nn6 m).take (4 + 0) ++ (List.replicate 12 0).drop (4 + 0)))) := A3.out
  clear A3
  go_wp2
  go_loopw [5] (fun iv wr => ∃ j : Nat, j ≤ 8 ∧ iv = .int .i64 j ∧ Hid (Ar wr b3 12 (List.map (Value.int .u8) ((nn6 m).take (4 + j) ++ (List.replicate 12 0).drop (4 + j)))) ∧ Hid (wr.there w.heap.size 0 12) ∧ Hid (Rd wr (some ⟨g, 0, none⟩) 8 c (lay 8 m)) ∧ Hid (Below w.heap.size w wr)) (fun iv _ => 8 - (intOf iv).toNat)
  case atStart => exact ⟨0, Nat.zero_le _, rfl, A4, AD, HP, HB⟩
  case round =>
    clear A4 AD HP HB
    obtain ⟨j, hj, rfl, A4, AD, HP, HB⟩ := hrel
    by_cases hlt : j < 8
    · have g1 : (j : Int) < 8 := by omega
      have htn : (j : Int).toNat = j := by omega
      have ht4 : (4 : Int) + (j : Int) = ((4 + j : Nat) : Int) := by omega
      obtain ⟨i4, hi4⟩ : ∃ i, i = 4 + j := ⟨_, rfl⟩
      rw [← hi4] at ht4
      have ht5 : (i4 : Int).toNat = i4 := by omega
      have ht6 : (i4 : Int) < 12 := by omega
      obtain ⟨b', off', ha', hcell⟩ := HP.out.cell (by decide)
      cases ha'
      have cj := hcell j hlt
      rw [Nat.zero_add] at cj
      obtain ⟨x, hx⟩ : ∃ x, x = (lay 8 m)[j]?.getD 0 := ⟨_, rfl⟩
      rw [← hx] at cj
      have hxs : (nn6 m)[i4]? = some x := by
        unfold nn6
        rw [List.getElem?_append_right (by simp; omega), hx, hi4]
        simp only [List.length_replicate]
        rw [show 4 + j - 4 = j by omega, List.getElem?_eq_getElem (by rw [lay_length]; exact hlt)]
        rfl
      have HXS : Hid ((nn6 m)[i4]? = some x) := hxs
      clear hcell hx hxs
      obtain ⟨cy, fy⟩ := A4.out.cell i4 (by omega)
      have HI4 : Hid (i4 = 4 + j) := hi4
      clear hi4
      go_wp2
      go_roundw
      case rel => exact ⟨j + 1, by omega, by go_num, by
        have := A4.out.set i4 (by have := HI4.out; omega) (.int .u8 x)
        rw [← List.map_set, ← HI4.out, half2_set _ _ i4 x HXS.out (by have := HI4.out; simp; omega)] at this
        rw [show 4 + (j + 1) = i4 + 1 by have := HI4.out; omega]
        exact this, there_set AD.out _ _ _, HP.out.extb ((ExtB.refl _ _).set _ _) hne, HB.out.setCell (p := ⟨b3, i4, none⟩) (by dsimp only; omega) _⟩
      case measure => simp [intOf]; omega
    · have e : j = 8 := by omega
      subst e
      have A5 : Hid (Ar wr b3 12 (List.map (Value.int .u8) (nn6 m))) := by
        have := A4.out
        rwa [List.take_of_length_le (by rw [(nn6_bn m).len]; decide), List.drop_eq_nil_of_le (by decide), List.append_nil] at this
      clear A4 HP hlt hj
      go_upto_region 7 with fail
      generalize wr = Y at *
      obtain ⟨hlenE, honeE, hiE⟩ := bn12_cells (nn6_bn m)
      obtain ⟨csE, hcs⟩ : ∃ cs, cs = (List.map (Value.int .u8) (nn6 m)) := ⟨_, rfl⟩
      have HE : Hid (csE = (List.map (Value.int .u8) (nn6 m))) := hcs
      have hrE := A5.out.rng
      rw [← hcs] at hlenE honeE hiE hrE
      clear hcs
      go_wp2_with (first
        | (refine wpList_load_mid rfl 48 (.tmp 3) rfl b3 0 rfl csE _ hrE Tryd.underlying48 rfl hiE ?_)
        | (refine wpList_store_mid rfl 48 (.tmp 2) (.tmp 19) rfl w.heap.size 0 csE.toArray rfl rfl (by simpa [hlenE] using AD.out) (by simpa using hiE) (all_oneCell_toArray honeE) ?_))
      have HR2 : Hid ((Y.setCells w.heap.size 0 csE).rangeAt w.heap.size 0 csE) := World.rangeAt_setCells_same _ _ _ _ (by rw [hlenE]; exact AD.out)
      have hld := run_loadVar_mid (P := Tryd.prog) _ _ 0 48 _ _ HR2.out Tryd.underlying48 rfl hiE
      exact bodyPost_ret (v := .agg csE.toArray) (by simp [results, Tryd.results22]; exact hld) rfl ⟨nn6 m, by rw [HE.out], rfl, nn6_bn m, below_setCells _ (by omega) _ _ _ HB.out⟩
set_option maxRecDepth 8000 in
set_option maxHeartbeats 2000000 in
theorem rfill_c (a : Option Addr) (len cap : Nat) (l : List Int) (w : World) (hr : Rd w a len cap l) (hm : len ≤ 549755813888) :
    Calls Tryd.prog 39 #[.slice a len cap] w fun e w' => ∃ a' m c' X, e = .returned (.slice a' m c') ∧ Hid (m = len + fl6 len) ∧ Hid (X = l ++ List.replicate (fl6 l.length) 0) ∧ Hid (w'.ownsRow w.heap.size 5 1 (.slice a' m c') m (List.map (Value.int .u8) X)) ∧ Below w.heap.size w w' := by
  have HR : Hid (Rd (w.alloc (.cells #[] 5)) a len cap l) := hr.alloc _
  have HL : Hid (l.length = len) := hr.hlen
  have HY : Hid (Byt l) := hr.byt
  have HO : Hid ((w.alloc (.cells #[] 5)).ownsRow w.heap.size 5 1 (.slice (some ⟨w.heap.size, 0, none⟩) 0 0) 0 (List.map (Value.int .u8) [])) := World.ownsRow_made w #[] 0 (Nat.le_refl _) (by decide) rfl
  clear hr
  go_enter Tryd.func39, Tryd.ntmps39
  go_wp2_with (at_builtin; refine wpList_app_l rfl (.tmp 4) (.tmp 5) rfl w.heap.size _ 0 [] rfl HO.out a len cap l rfl HR.out (by omega) (by simp) ?_)
  intro v1 W1 hown hb1
  obtain ⟨a1, c1, rfl⟩ := owns_shape hown
  have HO1 : Hid (W1.ownsRow w.heap.size 5 1 (.slice a1 len c1) len (List.map (Value.int .u8) (l ++ List.replicate 0 0))) := by unfold Hid; rw [List.replicate_zero, List.append_nil]; exact hown
  have HB : Hid (Below w.heap.size w W1) := (bel1 _ _).trans hb1
  clear hown hb1 HO HR
  obtain ⟨F0, hF0⟩ : ∃ f, f = fl6 len := ⟨_, rfl⟩
  have HF : Hid (F0 = fl6 len) := hF0
  have hF16 : F0 < 16 := by rw [hF0]; exact fl6_lt len
  clear hF0
  go_wp2
  go_loopw [3] (fun v wr => ∃ (j m : Nat) (a' : Option Addr) (c' : Nat), v = .slice a' m c' ∧ j ≤ F0 ∧ Hid (m = len + j) ∧ Hid (wr.ownsRow w.heap.size 5 1 (.slice a' m c') m (List.map (Value.int .u8) (l ++ List.replicate j 0))) ∧ Hid (Below w.heap.size w wr)) (fun v _ => len + F0 - slen v)
  case atStart => exact ⟨0, len, a1, c1, rfl, Nat.zero_le _, rfl, HO1, HB⟩
  case round =>
    clear HO1 HB
    obtain ⟨j, m, a', c', rfl, hj, HM, HO, HB⟩ := hrel
    have hm2 : m ≤ 549755813904 := by have := HM.out; omega
    by_cases hlt : j < F0
    · obtain ⟨p, hp⟩ : ∃ p, p = m % 16 := ⟨_, rfl⟩
      have hp1 : Int.tmod (m : Int) 16 = (p : Int) := by rw [Int.tmod_eq_emod_of_nonneg (by omega)]; omega
      have hp0 : 0 < p := by
        have h1 := HM.out
        have h2 := HF.out
        unfold fl6 at h2
        omega
      have hp2 : (0 : Int) < (p : Int) := by omega
      clear hp
      have HR1 : Hid (Rd (wr.alloc (.cells #[.int .u8 0] 5)) (some ⟨wr.heap.size, 0, none⟩) 1 1 [0]) := Rd.laid wr [0] (byt_zero 1) 5 1 (by decide) #[.int .u8 0] (fun i hi => by match i, hi with | 0, _ => rfl)
      go_wp2_with (at_builtin; refine wpList_app_l rfl (.tmp 11) (.tmp 12) rfl w.heap.size _ m (l ++ List.replicate j 0) rfl (HO.out.alloc _) _ 1 1 [0] rfl HR1.out (by omega) (by have := HB.out.size; simp; omega) ?_)
      intro v2 W2 hown hb2
      obtain ⟨a2, c2, rfl⟩ := owns_shape hown
      have HO2 : Hid (W2.ownsRow w.heap.size 5 1 (.slice a2 (m + 1) c2) (m + 1) (List.map (Value.int .u8) (l ++ List.replicate (j + 1) 0))) := by unfold Hid; simpa [List.replicate_succ'] using hown
      have HB2 : Hid (Below w.heap.size w W2) := (HB.out.alloc HB.out.size _).trans hb2
      clear hown hb2 HO HB HR1 hp1
      go_wp2
      go_roundw
      case rel => exact ⟨j + 1, m + 1, a2, c2, rfl, by omega, by have := HM.out; unfold Hid; omega, HO2, HB2⟩
      case measure => have := HM.out; simp [slen]; omega
    · have e : j = F0 := by omega
      subst e
      have hp1 : Int.tmod (m : Int) 16 = 0 := by
        rw [Int.tmod_eq_emod_of_nonneg (by omega)]
        have h1 := HM.out
        have h2 := HF.out
        unfold fl6 at h2
        omega
      go_wp2
      go_ret
      exact ⟨a', m, c', (l ++ List.replicate j 0), rfl, by unfold Hid; rw [HM.out, HF.out], by unfold Hid; rw [HF.out, HL.out], HO, HB.out⟩
end Go.Proofs.YtjmdgmbkkkoamaaDoor
