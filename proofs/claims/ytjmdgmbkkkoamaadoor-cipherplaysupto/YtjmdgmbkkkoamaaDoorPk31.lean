/-
  Several texts of one's own, laid together. No statement of the seat is proved here.
-/
import Derived.Test.YtjmdgmbkkkoamaaDoorPk27
import Derived.Test.YtjmdgmbkkkoamaaDoorPk11
/-
  What the reference's low does. No statement of the seat is proved here.
-/
namespace Go.Proofs.YtjmdgmbkkkoamaaDoor
open Go.RowKit

/-- The lowest 130 bits, digit by digit. -/
def ldig (x : List Int) : List Int := (x.take 17).set 16 (x[16]?.getD 0 % 4)
set_option maxRecDepth 8000 in
theorem ldig_len (x : List Int) : (ldig x).length = min 17 x.length := by unfold ldig; rw [List.length_set, List.length_take]
set_option maxRecDepth 8000 in
theorem ldig_byt {x : List Int} (h : Byt x) : Byt (ldig x) := by
  have := h.at 16
  exact byt_set (h.take 17) 16 (by omega) (by omega)
set_option maxRecDepth 8000 in
theorem low_num (x : List Int) (hb : Byt x) : leN (ldig x) = leN x % 1361129467683753853853498429727072845824 := by
  have e := leN_app (x.take 16) (x.drop 16)
  rw [List.take_append_drop] at e
  have h1 := leN_w (x.take 16) (hb.take 16)
  by_cases h : 16 < x.length
  · have hl : (x.take 16).length = 16 := by rw [List.length_take]; omega
    have e2 : (256 : Int) ^ 16 = 340282366920938463463374607431768211456 := by decide
    rw [hl, e2] at e h1
    have e3 : ldig x = x.take 16 ++ [x[16]?.getD 0 % 4] := by
      unfold ldig
      rw [List.take_succ_eq_append_getElem h, List.set_append_right _ _ (by omega), hl]
      rfl
    rw [e3, leN_snoc, hl, e2, e, leN_drop x 16 h]
    omega
  · have e3 : ldig x = x := by
      unfold ldig
      rw [List.set_eq_of_length_le (by rw [List.length_take]; omega), List.take_of_length_le (by omega)]
    rw [e3]
    have h2 := leN_w x hb
    have := (pow256 x.length (by omega)).2
    omega
set_option maxRecDepth 8000 in
theorem Ru.news {w : World} {x : Addr} {len cap : Nat} {l : List Int} (h : Ru w (some x) len cap l) (k : Nat) : ∀ j u, ((l.take k).map (Value.int .u32))[j]? = some u → w.cell? (x.add j) = some u := by
  intro j u hu
  have hj := (List.getElem?_eq_some_iff.1 hu).1
  simp only [List.length_map, List.length_take] at hj
  have hl := h.hlen
  obtain ⟨b, off, hx, hc⟩ := h.cell (by omega)
  cases hx
  rw [Addr.add_lit, hc j (by omega)]
  rw [List.getElem?_map, List.getElem?_take_of_lt (by omega), List.getElem?_eq_getElem (show j < l.length by omega)] at hu
  rw [List.getElem?_eq_getElem (show j < l.length by omega)]
  exact hu
set_option maxRecDepth 8000 in
set_option maxHeartbeats 2000000 in
theorem low_some (ad : Addr) (len cap : Nat) (x : List Int) (w : World) (hr : Ru w (some ad) len cap x) (hm : len ≤ 8000000) :
    Calls Tryd.prog 68 #[.slice (some ad) len cap] w fun e w' => ∃ v, e = .returned v ∧ Hid (w'.ownsRow w.heap.size 57 1 v (min 17 len) (List.map (Value.int .u32) (ldig x))) ∧ Below w.heap.size w w' := by
  obtain ⟨i0, hi, hz0, hz1, hz2⟩ := info_parts infoU
  have HO : Hid ((w.alloc (.cells #[] 57)).ownsRow w.heap.size 57 1 (.slice (some ⟨w.heap.size, 0, none⟩) 0 0) 0 []) := World.ownsRow_made w #[] 0 (Nat.le_refl _) (by decide) rfl
  have HN : Hid (∀ k j u, ((x.take k).map (Value.int .u32))[j]? = some u → (w.alloc (.cells #[] 57)).cell? (ad.add j) = some u) := fun k => (hr.below (bel1 _ _)).news k
  have HL : Hid (x.length = len) := hr.hlen
  have HXB : Hid (Byt x) := hr.byt
  have hle := hr.hle
  clear hr
  by_cases h17 : len = 17
  · subst h17
    go_enter Tryd.func68, Tryd.ntmps68
    go_wp2_with (at_builtin; refine wpList_append_own _ rfl (.tmp 4) (.tmp 9) 77 rfl w.heap.size 57 i0 (.int .u32 0) 1 4 Tryd.underlying77 hi hz0 hz1 hz2 rfl (by decide) _ 0 [] rfl HO.out ad 17 cap ((x.take 17).map (Value.int .u32)) rfl (by have := HL.out; simp; omega) (HN.out 17) (words_oneCell _) (by unfold maxLen; omega) (by omega) (by simp) ?_)
    intro v' w1 hown hg _
    have HB1 : Hid (Below w.heap.size w w1) := ((Below.refl _ _).alloc (Nat.le_refl _) _).grown hg (by simp) (fun k hk => by simp [Value.ownBlock] at hk; omega)
    rw [← List.map_take] at hown
    obtain ⟨g, c', hv'⟩ : ∃ g c', v' = .slice (some ⟨g, 0, none⟩) 17 c' := by
      rcases hown.2 with ⟨_, h⟩ | ⟨g, c', _, h, _⟩
      · cases h
      · exact ⟨g, c', h⟩
    subst hv'
    have c16 := World.ownsRow.cellAt hown 16 (by decide)
    have f16 := World.ownsRow.frozenAt hown 16
    have HW1 : Hid (w1.ownsRow w.heap.size 57 1 (.slice (some ⟨g, 0, none⟩) 17 c') 17 (List.map (Value.int .u32) (x.take 17))) := hown
    have hx16 : 16 < x.length := by have := HL.out; omega
    rw [List.getElem?_map, List.getElem?_take_of_lt (by decide), List.getElem?_eq_getElem hx16, Option.map_some] at c16
    have hb16 := HXB.out.get hx16
    have HLD : Hid (∀ d, d = x[16] % 4 → ldig x = (x.take 17).set 16 d) := fun d hd => by unfold ldig; rw [hd, List.getElem?_eq_getElem hx16]; rfl
    generalize x[16] = y at *
    obtain ⟨d, hd⟩ : ∃ d, d = y % 4 := ⟨_, rfl⟩
    have hd1 : Int.tmod y 4 = d := by rw [Int.tmod_eq_emod_of_nonneg (by omega), hd]
    have HLD' : Hid (ldig x = (x.take 17).set 16 d) := HLD.out d hd
    clear hown hg HO HN HLD hd hx16
    go_wp2
    go_ret
    refine ⟨_, rfl, ?_, ?_⟩
    · unfold Hid
      rw [HLD'.out, List.map_set]
      exact (HW1.out.stored 16 _).1
    · exact HB1.out.setCell (p := ⟨g, 16, none⟩) ((HW1.out.lt g (by simp [Value.ownBlock])).1) _
  · by_cases hlt : len < 17
    · have hltI : (len : Int) ≤ 17 := by omega
      have hneI : ((len : Int) == 17) = false := by simp; omega
      have hne2 : ¬ (len : Int) = 17 := by omega
      have htn : (len : Int).toNat = len := by omega
      go_enter Tryd.func68, Tryd.ntmps68
      go_wp2_with (at_builtin; refine wpList_append_own _ rfl (.tmp 4) (.tmp 9) 77 rfl w.heap.size 57 i0 (.int .u32 0) 1 4 Tryd.underlying77 hi hz0 hz1 hz2 rfl (by decide) _ 0 [] rfl HO.out ad len cap ((x.take len).map (Value.int .u32)) rfl (by have := HL.out; simp; omega) (HN.out len) (words_oneCell _) (by unfold maxLen; omega) (by omega) (by simp) ?_)
      intro v' w1 hown hg _
      have HB1 : Hid (Below w.heap.size w w1) := ((Below.refl _ _).alloc (Nat.le_refl _) _).grown hg (by simp) (fun k hk => by simp [Value.ownBlock] at hk; omega)
      rw [← List.map_take] at hown
      obtain ⟨a', c', rfl⟩ := owns_shape hown
      have HW1 : Hid (w1.ownsRow w.heap.size 57 1 (.slice a' len c') (min 17 len) (List.map (Value.int .u32) (ldig x))) := by
        have e : ldig x = x.take len := by
          unfold ldig
          rw [List.set_eq_of_length_le (by rw [List.length_take, HL.out]; omega), List.take_of_length_le (by rw [HL.out]; omega), List.take_of_length_le (by rw [HL.out]; exact Nat.le_refl _)]
        unfold Hid
        rw [e, Nat.min_eq_right (by omega)]
        exact hown
      clear hown hg HO HN
      go_wp2
      go_ret
      exact ⟨_, rfl, HW1, HB1.out⟩
    · have hgt : (17 : Int) < len := by omega
      have hgt2 : (17 : Int) ≤ len := by omega
      have hgt3 : (17 : Int) ≤ cap := by omega
      go_enter Tryd.func68, Tryd.ntmps68
      go_wp2_with (at_builtin; refine wpList_append_own _ rfl (.tmp 4) (.tmp 9) 77 rfl w.heap.size 57 i0 (.int .u32 0) 1 4 Tryd.underlying77 hi hz0 hz1 hz2 rfl (by decide) _ 0 [] rfl HO.out ad 17 cap ((x.take 17).map (Value.int .u32)) rfl (by have := HL.out; simp; omega) (HN.out 17) (words_oneCell _) (by unfold maxLen; omega) (by omega) (by simp) ?_)
      intro v' w1 hown hg _
      have HB1 : Hid (Below w.heap.size w w1) := ((Below.refl _ _).alloc (Nat.le_refl _) _).grown hg (by simp) (fun k hk => by simp [Value.ownBlock] at hk; omega)
      rw [← List.map_take] at hown
      obtain ⟨g, c', hv'⟩ : ∃ g c', v' = .slice (some ⟨g, 0, none⟩) 17 c' := by
        rcases hown.2 with ⟨_, h⟩ | ⟨g, c', _, h, _⟩
        · cases h
        · exact ⟨g, c', h⟩
      subst hv'
      have c16 := World.ownsRow.cellAt hown 16 (by decide)
      have f16 := World.ownsRow.frozenAt hown 16
      have HW1 : Hid (w1.ownsRow w.heap.size 57 1 (.slice (some ⟨g, 0, none⟩) 17 c') 17 (List.map (Value.int .u32) (x.take 17))) := hown
      have hx16 : 16 < x.length := by have := HL.out; omega
      rw [List.getElem?_map, List.getElem?_take_of_lt (by decide), List.getElem?_eq_getElem hx16, Option.map_some] at c16
      have hb16 := HXB.out.get hx16
      have HLD : Hid (∀ d, d = x[16] % 4 → ldig x = (x.take 17).set 16 d) := fun d hd => by unfold ldig; rw [hd, List.getElem?_eq_getElem hx16]; rfl
      generalize x[16] = y at *
      obtain ⟨d, hd⟩ : ∃ d, d = y % 4 := ⟨_, rfl⟩
      have hd1 : Int.tmod y 4 = d := by rw [Int.tmod_eq_emod_of_nonneg (by omega), hd]
      have HLD' : Hid (ldig x = (x.take 17).set 16 d) := HLD.out d hd
      clear hown hg HO HN HLD hd hx16
      go_wp2
      go_ret
      refine ⟨_, rfl, ?_, ?_⟩
      · unfold Hid
        rw [HLD'.out, List.map_set, Nat.min_eq_left (by omega)]
        exact (HW1.out.stored 16 _).1
      · exact HB1.out.setCell (p := ⟨g, 16, none⟩) ((HW1.out.lt g (by simp [Value.ownBlock])).1) _
set_option maxRecDepth 8000 in
theorem low_none (cap : Nat) (w : World) : Calls Tryd.prog 68 #[.slice none 0 cap] w fun e w' => ∃ v, e = .returned v ∧ Hid (w'.ownsRow w.heap.size 57 1 v 0 (List.map (Value.int .u32) (ldig []))) ∧ Below w.heap.size w w' := by
  have HO : Hid ((w.alloc (.cells #[] 57)).ownsRow w.heap.size 57 1 (.slice (some ⟨w.heap.size, 0, none⟩) 0 0) 0 []) := World.ownsRow_made w #[] 0 (Nat.le_refl _) (by decide) rfl
  go_enter Tryd.func68, Tryd.ntmps68
  go_wp2
  go_ret
  exact ⟨_, rfl, HO.out, bel1 _ _⟩
set_option maxRecDepth 8000 in
theorem low_c (a : Option Addr) (len cap : Nat) (x : List Int) (w : World) (hr : Ru w a len cap x) (hm : len ≤ 8000000) :
    Calls Tryd.prog 68 #[.slice a len cap] w fun e w' => ∃ v z, e = .returned v ∧ Hid (Byt z) ∧ Hid (leN z = leN x % 1361129467683753853853498429727072845824) ∧ Hid (w'.ownsRow w.heap.size 57 1 v (min 17 len) (List.map (Value.int .u32) z)) ∧ Below w.heap.size w w' := by
  cases a with
  | some ad =>
    refine (low_some ad len cap x w hr hm).mono ?_
    rintro e w' ⟨v, rfl, HO, hb⟩
    exact ⟨v, _, rfl, ldig_byt hr.byt, low_num x hr.byt, HO, hb⟩
  | none =>
    have h0 : len = 0 := by
      apply Classical.byContradiction
      intro hn
      obtain ⟨_, _, h, _⟩ := hr.cell (by omega)
      cases h
    subst h0
    have hx : x = [] := List.eq_nil_of_length_eq_zero hr.hlen
    subst hx
    refine (low_none cap w).mono ?_
    rintro e w' ⟨v, rfl, HO, hb⟩
    exact ⟨v, _, rfl, ldig_byt hr.byt, low_num _ hr.byt, HO, hb⟩
end Go.Proofs.YtjmdgmbkkkoamaaDoor
/-
  What the reference's zero does. No statement of the seat is proved here.
-/
namespace Go.Proofs.YtjmdgmbkkkoamaaDoor
open Go.RowKit

set_option maxRecDepth 8000 in
theorem leN_zeros (x : List Int) (k : Nat) (h : x.take k = List.replicate k 0) (hk : x.length ≤ k) : leN x = 0 := by
  rw [List.take_of_length_le hk] at h
  rw [h, leN_zero]
set_option maxRecDepth 8000 in
theorem leN_ne (x : List Int) (hb : Byt x) (k : Nat) (hk : k < x.length) (h : x[k]?.getD 0 ≠ 0) : leN x ≠ 0 := by
  have e : leN x = leN (x.take k) + 256 ^ (x.take k).length * leN (x.drop k) := by
    have := leN_app (x.take k) (x.drop k)
    rwa [List.take_append_drop] at this
  have h1 := (leN_w (x.take k) (hb.take k)).1
  have h2 := (leN_w (x.drop (k + 1)) (hb.drop (k + 1))).1
  have h3 := leN_drop x k hk
  have h4 := hb.at k
  have h5 : 0 < leN (x.drop k) := by omega
  have h6 := Int.mul_pos (pow_pos (x.take k).length) h5
  omega
set_option maxRecDepth 8000 in
set_option maxHeartbeats 1000000 in
theorem zero_c (a : Option Addr) (len cap : Nat) (x : List Int) (w : World) (hr : Ru w a len cap x) (hm : len ≤ 8000000) :
    Calls Tryd.prog 66 #[.slice a len cap] w fun e w' => e = .returned (.bool (decide (leN x = 0))) ∧ w' = w := by
  have HR : Hid (Ru w a len cap x) := hr
  have HL : Hid (x.length = len) := hr.hlen
  clear hr
  obtain ⟨dz, hdz⟩ : ∃ d, d = decide (leN x = 0) := ⟨_, rfl⟩
  have HDZ : Hid (dz = decide (leN x = 0)) := hdz
  rw [← hdz]
  clear hdz
  go_enter Tryd.func66, Tryd.ntmps66
  go_wp2
  go_loopw [3] (fun i wr => ∃ k : Nat, k ≤ len ∧ i = .int .i64 k ∧ wr = w ∧ Hid (x.take k = List.replicate k 0)) (fun i _ => len - (intOf i).toNat)
  case atStart => exact ⟨0, Nat.zero_le _, rfl, rfl, rfl⟩
  case round =>
    obtain ⟨k, hk, rfl, rfl, HZ⟩ := hrel
    have htn : (k : Int).toNat = k := by omega
    by_cases hlt : k < len
    · have g1 : (k : Int) < len := by omega
      obtain ⟨b, off, rfl, hc⟩ := HR.out.cell (by omega)
      have ck := hc k hlt
      clear hc
      have hb := HR.out.byt.at k
      by_cases hz : x[k]?.getD 0 = 0
      · have HZ' : Hid (x.take (k + 1) = List.replicate (k + 1) 0) := by
          have hl : k < x.length := by rw [HL.out]; exact hlt
          unfold Hid
          rw [List.getElem?_eq_getElem hl] at hz
          rw [List.take_succ_eq_append_getElem hl, HZ.out, List.replicate_succ', show x[k] = 0 from hz]
        rw [hz] at ck
        clear hb hz
        go_wp2
        go_roundw
        case rel => exact ⟨k + 1, by omega, by go_num, trivial, HZ'⟩
        case measure => simp [intOf]; omega
      · have hd : dz = false := by
          rw [HDZ.out]
          exact decide_eq_false (leN_ne x HR.out.byt k (by rw [HL.out]; exact hlt) hz)
        subst hd
        generalize x[k]?.getD 0 = xk at *
        have hzb : (xk != 0) = true := by simp [hz]
        go_wp2
        go_ret
        exact ⟨rfl, rfl⟩
    · have e : k = len := by omega
      subst e
      have hd : dz = true := by
        rw [HDZ.out]
        exact decide_eq_true (leN_zeros x k HZ.out (by rw [HL.out]; exact Nat.le_refl _))
      subst hd
      go_wp2
      go_ret
      exact ⟨rfl, rfl⟩
end Go.Proofs.YtjmdgmbkkkoamaaDoor
