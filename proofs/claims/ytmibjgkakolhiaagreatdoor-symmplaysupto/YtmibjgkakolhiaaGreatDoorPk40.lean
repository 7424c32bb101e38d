/-
  Several texts of one's own, laid together. No statement of the seat is proved here.
-/
import Derived.Test.YtmibjgkakolhiaaGreatDoorPk38
import Derived.Test.YtmibjgkakolhiaaGreatDoorPk10
/-
 What the reference's high does. No statement of the seat is proved here.
-/
namespace Go.Proofs.YtmibjgkakolhiaaGreatDoor
open Go.RowKit

/-- A quarter of a number, digit by digit. -/
def hdig : List Int → List Int
 | [] => []
 | a :: r => (a / 4 + r[0]?.getD 0 % 4 * 64) :: hdig r
set_option maxRecDepth 8000 in
theorem hdig_len : ∀ l, (hdig l).length = l.length
 | [] => rfl
 | a :: r => by rw [hdig, List.length_cons, hdig_len r, List.length_cons]
set_option maxRecDepth 8000 in
theorem hdig_byt : ∀ {l : List Int}, Byt l → Byt (hdig l)
 | [], _ => Byt.nil
 | a :: r, h => by
  have h0 := h a (by simp)
  have hr : Byt r := fun y hy => h y (List.mem_cons_of_mem _ hy)
  have h1 := hr.at 0
  exact Byt.cons (by omega) (by omega) (hdig_byt hr)
set_option maxRecDepth 8000 in
theorem hdig_at : ∀ (l : List Int) (j : Nat), j < l.length → (hdig l)[j]? = some (l[j]?.getD 0 / 4 + l[j + 1]?.getD 0 % 4 * 64)
 | a :: r, 0, _ => by simp [hdig]
 | a :: r, j + 1, h => by
  rw [hdig, List.getElem?_cons_succ, hdig_at r j (by simpa using h)]
  simp
set_option maxRecDepth 8000 in
theorem hdig_num : ∀ (l : List Int), Byt l → leN (hdig l) = leN l / 4
 | [], _ => rfl
 | a :: r, h => by
  have h0 := h a (by simp)
  have hr : Byt r := fun y hy => h y (List.mem_cons_of_mem _ hy)
  rw [hdig, leN, leN, hdig_num r hr]
  cases r with
  | nil => simp [leN]
  | cons b s =>
   have h1 := hr b (by simp)
   have e : leN (b :: s) = b + 256 * leN s := rfl
   rw [show (b :: s)[0]?.getD 0 = b from rfl, e]
   omega
set_option maxRecDepth 8000 in
theorem high_num (x : List Int) (hb : Byt x) : leN (hdig (x.drop 16)) = leN x / 1361129467683753853853498429727072845824 := by
 rw [hdig_num _ (hb.drop 16)]
 have e := leN_app (x.take 16) (x.drop 16)
 rw [List.take_append_drop] at e
 have h1 := leN_w (x.take 16) (hb.take 16)
 by_cases h : 16 ≤ x.length
 ·have hl : (x.take 16).length = 16 := by rw [List.length_take]; omega
  rw [hl] at e h1
  have e2 : (256 : Int) ^ 16 = 340282366920938463463374607431768211456 := by decide
  rw [e2] at e h1
  omega
 ·rw [leN_dropN x 16 (by omega)] at e ⊢
  have hl : (x.take 16).length ≤ 16 := by rw [List.length_take]; omega
  have := (pow256 _ hl).2
  omega
set_option maxRecDepth 8000 in
set_option maxHeartbeats 2000000 in
theorem high_c (a : Option Addr) (len cap : Nat) (x : List Int) (w : World) (hr : Ru w a len cap x) (hm : len ≤ 8000000) :
  Calls Tryz.prog 98 #[.slice a len cap] w fun e w' => ∃ v z, e = .returned v ∧ Hid (Byt z) ∧ Hid (leN z = leN x / 1361129467683753853853498429727072845824) ∧ Hid (w'.ownsRow w.heap.size 63 1 v (len - 16) (List.map (Value.int .u32) z)) ∧ Below w.heap.size w w' := by
 obtain ⟨i0, hi, hz0, hz1, hz2⟩ := info_parts infoU
 have HR : Hid (Ru w a len cap x) := hr
 have HL : Hid ((x.drop 16).length = len - 16) := by unfold Hid; rw [List.length_drop, hr.hlen]
 obtain ⟨H, hH⟩ : ∃ H, H = hdig (x.drop 16) := ⟨_, rfl⟩
 have HHB : Hid (Byt H) := by unfold Hid; rw [hH]; exact hdig_byt (hr.byt.drop 16)
 have HHL : Hid (H.length = len - 16) := by unfold Hid; rw [hH, hdig_len, HL.out]
 have HHN : Hid (leN H = leN x / 1361129467683753853853498429727072845824) := by unfold Hid; rw [hH]; exact high_num x hr.byt
 have HHA : Hid (∀ j, j < len - 16 → H[j]? = some (x[16 + j]?.getD 0 / 4 + x[16 + j + 1]?.getD 0 % 4 * 64)) := fun j hj => by
  rw [hH, hdig_at _ j (by rw [HL.out]; exact hj), List.getElem?_drop, List.getElem?_drop]
  rfl
 clear hr hH
 go_enter Tryz.func98, Tryz.ntmps98
 go_wp2
 go_loopw [4, 3] (fun i b wr => ∃ (k : Nat) (v : Value), k ≤ len - 16 ∧ i = .int .i64 (16 + (k : Int)) ∧ b = v ∧ Hid (wr.ownsRow w.heap.size 63 1 v k (List.map (Value.int .u32) (H.take k))) ∧ Hid (Below w.heap.size w wr)) (fun i _ _ => len - (intOf i).toNat)
 case atStart => exact ⟨0, _, Nat.zero_le _, rfl, rfl, World.ownsRow_nil _ _ _ _, Below.refl _ _⟩
 case round =>
  obtain ⟨k, v, hk, rfl, rfl, HO, HB⟩ := hrel
  have htn : (16 + (k : Int)).toNat = 16 + k := by omega
  by_cases hlt : k < len - 16
  ·have g1 : 16 + (k : Int) < len := by omega
   obtain ⟨b, off, rfl, hc⟩ := (HR.out.below HB.out).cell (by omega)
   have ck := hc (16 + k) (by omega)
   have hb := HR.out.byt.at (16 + k)
   have hb2 := HR.out.byt.at (16 + k + 1)
   have hha := HHA.out k hlt
   have hkl : k < H.length := by rw [HHL.out]; exact hlt
   have HNX : Hid (∀ d, d = x[16 + k]?.getD 0 / 4 + x[16 + k + 1]?.getD 0 % 4 * 64 → H.take (k + 1) = H.take k ++ [d]) := fun d hd => by
    rw [List.getElem?_eq_getElem hkl] at hha
    rw [List.take_succ_eq_append_getElem hkl, Option.some.inj hha, hd]
   clear hha
   by_cases hlt2 : 16 + k + 1 < len
   ·have g2 : 16 + (k : Int) + 1 < len := by omega
    have htn2 : (16 + (k : Int) + 1).toNat = 16 + k + 1 := by omega
    have ck2 := hc (16 + k + 1) hlt2
    clear hc
    generalize x[16 + k]?.getD 0 = p at *
    generalize x[16 + k + 1]?.getD 0 = q at *
    obtain ⟨hb0, hb1⟩ := hb
    obtain ⟨hb20, hb21⟩ := hb2
    obtain ⟨d, hd⟩ : ∃ d, d = p / 4 + q % 4 * 64 := ⟨_, rfl⟩
    have hd1 : Int.tdiv p 4 = p / 4 := Int.tdiv_eq_ediv_of_nonneg (by omega)
    have hd2 : Int.tmod q 4 = q % 4 := Int.tmod_eq_emod_of_nonneg (by omega)
    have hd3 : p / 4 + q % 4 * 64 = d := hd.symm
    have hd4 : 0 ≤ d ∧ d ≤ 255 := by omega
    have HTK := HNX.out d hd
    clear HNX hd
    have HTK' : Hid (H.take (k + 1) = H.take k ++ [d]) := HTK
    clear HTK
    go_wp2_with (at_builtin; refine wpList_append_own _ rfl (.tmp 31) (.tmp 33) 118 rfl w.heap.size 63 i0 (.int .u32 0) 1 4 Tryz.underlying118 hi hz0 hz1 hz2 rfl (by decide) _ k (List.map (Value.int .u32) (H.take k)) rfl (HO.out.alloc _) ⟨wr.heap.size, 0, none⟩ 1 1 [.int .u32 d] rfl rfl (fun j u hu => one_news32 wr _ _ j u hu) (by intro u hu; simp at hu; rw [hu]; rfl) (by unfold maxLen; omega) (by omega) (by have := HB.out.size; simp; omega) ?_)
    intro v' w1 hown hg _
    have HO' : Hid (w1.ownsRow w.heap.size 63 1 v' (k + 1) (List.map (Value.int .u32) (H.take (k + 1)))) := by unfold Hid; rw [HTK'.out, List.map_append, List.map_take]; exact hown
    have HB' : Hid (Below w.heap.size w w1) := (HB.out.alloc HB.out.size _).grown hg (by have := HB.out.size; simp; omega) (fun j hj => ((HO.out.lt j hj).1))
    clear hown hg HO HB
    go_wp2
    go_roundw
    case rel => exact ⟨k + 1, v', by omega, by go_num, rfl, HO', HB'⟩
    case measure => simp [intOf]; omega
   ·have g2 : ¬ 16 + (k : Int) + 1 < len := by omega
    have eq0 : x[16 + k + 1]?.getD 0 = 0 := by rw [List.getElem?_eq_none (by rw [HR.out.hlen]; omega)]; rfl
    clear hc
    rw [eq0] at HNX
    clear hb2 eq0
    generalize x[16 + k]?.getD 0 = p at *
    obtain ⟨hb0, hb1⟩ := hb
    obtain ⟨d, hd⟩ : ∃ d, d = p / 4 := ⟨_, rfl⟩
    have hd1 : Int.tdiv p 4 = d := by rw [Int.tdiv_eq_ediv_of_nonneg (by omega), hd]
    have hd4 : 0 ≤ d ∧ d ≤ 255 := by omega
    have HTK := HNX.out d (by omega)
    clear HNX hd
    have HTK' : Hid (H.take (k + 1) = H.take k ++ [d]) := HTK
    clear HTK
    go_wp2_with (at_builtin; refine wpList_append_own _ rfl (.tmp 31) (.tmp 33) 118 rfl w.heap.size 63 i0 (.int .u32 0) 1 4 Tryz.underlying118 hi hz0 hz1 hz2 rfl (by decide) _ k (List.map (Value.int .u32) (H.take k)) rfl (HO.out.alloc _) ⟨wr.heap.size, 0, none⟩ 1 1 [.int .u32 d] rfl rfl (fun j u hu => one_news32 wr _ _ j u hu) (by intro u hu; simp at hu; rw [hu]; rfl) (by unfold maxLen; omega) (by omega) (by have := HB.out.size; simp; omega) ?_)
    intro v' w1 hown hg _
    have HO' : Hid (w1.ownsRow w.heap.size 63 1 v' (k + 1) (List.map (Value.int .u32) (H.take (k + 1)))) := by unfold Hid; rw [HTK'.out, List.map_append, List.map_take]; exact hown
    have HB' : Hid (Below w.heap.size w w1) := (HB.out.alloc HB.out.size _).grown hg (by have := HB.out.size; simp; omega) (fun j hj => ((HO.out.lt j hj).1))
    clear hown hg HO HB
    go_wp2
    go_roundw
    case rel => exact ⟨k + 1, v', by omega, by go_num, rfl, HO', HB'⟩
    case measure => simp [intOf]; omega
  ·have e : k = len - 16 := by omega
   have g1 : ¬ 16 + (k : Int) < len := by omega
   have e2 : H.take k = H := List.take_of_length_le (by rw [HHL.out]; omega)
   rw [e2, e] at HO
   clear e
   go_wp2
   go_ret
   exact ⟨_, rfl, H, HHB, HHN, HO, HB.out⟩
end Go.Proofs.YtmibjgkakolhiaaGreatDoor
/-
 What the reference's low does. No statement of the seat is proved here.
-/
namespace Go.Proofs.YtmibjgkakolhiaaGreatDoor
open Go.RowKit

/-- The lowest 130 bits, digit by digit. -/
def ldig (x : List Int) : List Int := (x.take 17).set 16 (x[16]?.getD 0 % 4)
set_option maxRecDepth 8000 in
theorem ldig_len (x : List Int) : (ldig x).length = min 17 x.length := by unfold ldig; rw [List.length_set, List.length_take]
set_option maxRecDepth 8000 in
theorem ldig_byt {x : List Int} (h : Byt x) : Byt (ldig x) := by
 have := h.at 16
 exact byt_set (h.take 17) 16 (by omega) (by omega)
set_option maxRecDepth 8000 in
theorem low_num (x : List Int) (hb : Byt x) : leN (ldig x) = leN x % 1361129467683753853853498429727072845824 := by
 have e := leN_app (x.take 16) (x.drop 16)
 rw [List.take_append_drop] at e
 have h1 := leN_w (x.take 16) (hb.take 16)
 by_cases h : 16 < x.length
 ·have hl : (x.take 16).length = 16 := by rw [List.length_take]; omega
  have e2 : (256 : Int) ^ 16 = 340282366920938463463374607431768211456 := by decide
  rw [hl, e2] at e h1
  have e3 : ldig x = x.take 16 ++ [x[16]?.getD 0 % 4] := by
   unfold ldig
   rw [List.take_succ_eq_append_getElem h, List.set_append_right _ _ (by omega), hl]
   rfl
  rw [e3, leN_snoc, hl, e2, e, leN_drop x 16 h]
  omega
 ·have e3 : ldig x = x := by
   unfold ldig
   rw [List.set_eq_of_length_le (by rw [List.length_take]; omega), List.take_of_length_le (by omega)]
  rw [e3]
  have h2 := leN_w x hb
  have := (pow256 x.length (by omega)).2
  omega
set_option maxRecDepth 8000 in
theorem Ru.news {w : World} {x : Addr} {len cap : Nat} {l : List Int} (h : Ru w (some x) len cap l) (k : Nat) : ∀ j u, ((l.take k).map (Value.int .u32))[j]? = some u → w.cell? (x.add j) = some u := by
 intro j u hu
 have hj := (List.getElem?_eq_some_iff.1 hu).1
 simp only [List.length_map, List.length_take] at hj
 have hl := h.hlen
 obtain ⟨b, off, hx, hc⟩ := h.cell (by omega)
 cases hx
 rw [Addr.add_lit, hc j (by omega)]
 rw [List.getElem?_map, List.getElem?_take_of_lt (by omega), List.getElem?_eq_getElem (show j < l.length by omega)] at hu
 rw [List.getElem?_eq_getElem (show j < l.length by omega)]
 exact hu
set_option maxRecDepth 8000 in
set_option maxHeartbeats 2000000 in
theorem low_some (ad : Addr) (len cap : Nat) (x : List Int) (w : World) (hr : Ru w (some ad) len cap x) (hm : len ≤ 8000000) :
  Calls Tryz.prog 99 #[.slice (some ad) len cap] w fun e w' => ∃ v, e = .returned v ∧ Hid (w'.ownsRow w.heap.size 63 1 v (min 17 len) (List.map (Value.int .u32) (ldig x))) ∧ Below w.heap.size w w' := by
 obtain ⟨i0, hi, hz0, hz1, hz2⟩ := info_parts infoU
 have HO : Hid ((w.alloc (.cells #[] 63)).ownsRow w.heap.size 63 1 (.slice (some ⟨w.heap.size, 0, none⟩) 0 0) 0 []) := World.ownsRow_made w #[] 0 (Nat.le_refl _) (by decide) rfl
 have HN : Hid (∀ k j u, ((x.take k).map (Value.int .u32))[j]? = some u → (w.alloc (.cells #[] 63)).cell? (ad.add j) = some u) := fun k => (hr.below (bel1 _ _)).news k
 have HL : Hid (x.length = len) := hr.hlen
 have HXB : Hid (Byt x) := hr.byt
 have hle := hr.hle
 clear hr
 by_cases h17 : len = 17
 ·subst h17
  go_enter Tryz.func99, Tryz.ntmps99
  go_wp2_with (at_builtin; refine wpList_append_own _ rfl (.tmp 4) (.tmp 9) 118 rfl w.heap.size 63 i0 (.int .u32 0) 1 4 Tryz.underlying118 hi hz0 hz1 hz2 rfl (by decide) _ 0 [] rfl HO.out ad 17 cap ((x.take 17).map (Value.int .u32)) rfl (by have := HL.out; simp; omega) (HN.out 17) (words_oneCell _) (by unfold maxLen; omega) (by omega) (by simp) ?_)
  intro v' w1 hown hg _
  have HB1 : Hid (Below w.heap.size w w1) := ((Below.refl _ _).alloc (Nat.le_refl _) _).grown hg (by simp) (fun k hk => by simp [Value.ownBlock] at hk; omega)
  rw [← List.map_take] at hown
  obtain ⟨g, c', hv'⟩ : ∃ g c', v' = .slice (some ⟨g, 0, none⟩) 17 c' := by
   rcases hown.2 with ⟨_, h⟩ | ⟨g, c', _, h, _⟩
   ·cases h
   ·exact ⟨g, c', h⟩
  subst hv'
  have c16 := World.ownsRow.cellAt hown 16 (by decide)
  have f16 := World.ownsRow.frozenAt hown 16
  have HW1 : Hid (w1.ownsRow w.heap.size 63 1 (.slice (some ⟨g, 0, none⟩) 17 c') 17 (List.map (Value.int .u32) (x.take 17))) := hown
  have hx16 : 16 < x.length := by have := HL.out; omega
  rw [List.getElem?_map, List.getElem?_take_of_lt (by decide), List.getElem?_eq_getElem hx16, Option.map_some] at c16
  have hb16 := HXB.out.get hx16
  have HLD : Hid (∀ d, d = x[16] % 4 → ldig x = (x.take 17).set 16 d) := fun d hd => by unfold ldig; rw [hd, List.getElem?_eq_getElem hx16]; rfl
  generalize x[16] = y at *
  obtain ⟨d, hd⟩ : ∃ d, d = y % 4 := ⟨_, rfl⟩
  have hd1 : Int.tmod y 4 = d := by rw [Int.tmod_eq_emod_of_nonneg (by omega), hd]
  have HLD' : Hid (ldig x = (x.take 17).set 16 d) := HLD.out d hd
  clear hown hg HO HN HLD hd hx16
  go_wp2
  go_ret
  refine ⟨_, rfl, ?_, ?_⟩
  ·unfold Hid
   rw [HLD'.out, List.map_set]
   exact (HW1.out.stored 16 _).1
  ·exact HB1.out.setCell (p := ⟨g, 16, none⟩) ((HW1.out.lt g (by simp [Value.ownBlock])).1) _
 ·by_cases hlt : len < 17
  ·have hltI : (len : Int) ≤ 17 := by omega
   have hneI : ((len : Int) == 17) = false := by simp; omega
   have hne2 : ¬ (len : Int) = 17 := by omega
   have htn : (len : Int).toNat = len := by omega
   go_enter Tryz.func99, Tryz.ntmps99
   go_wp2_with (at_builtin; refine wpList_append_own _ rfl (.tmp 4) (.tmp 9) 118 rfl w.heap.size 63 i0 (.int .u32 0) 1 4 Tryz.underlying118 hi hz0 hz1 hz2 rfl (by decide) _ 0 [] rfl HO.out ad len cap ((x.take len).map (Value.int .u32)) rfl (by have := HL.out; simp; omega) (HN.out len) (words_oneCell _) (by unfold maxLen; omega) (by omega) (by simp) ?_)
   intro v' w1 hown hg _
   have HB1 : Hid (Below w.heap.size w w1) := ((Below.refl _ _).alloc (Nat.le_refl _) _).grown hg (by simp) (fun k hk => by simp [Value.ownBlock] at hk; omega)
   rw [← List.map_take] at hown
   obtain ⟨a', c', rfl⟩ := owns_shape hown
   have HW1 : Hid (w1.ownsRow w.heap.size 63 1 (.slice a' len c') (min 17 len) (List.map (Value.int .u32) (ldig x))) := by
    have e : ldig x = x.take len := by
     unfold ldig
     rw [List.set_eq_of_length_le (by rw [List.length_take, HL.out]; omega), List.take_of_length_le (by rw [HL.out]; omega), List.take_of_length_le (by rw [HL.out]; exact Nat.le_refl _)]
    unfold Hid
    rw [e, Nat.min_eq_right (by omega)]
    exact hown
   clear hown hg HO HN
   go_wp2
   go_ret
   exact ⟨_, rfl, HW1, HB1.out⟩
  ·have hgt : (17 : Int) < len := by omega
   have hgt2 : (17 : Int) ≤ len := by omega
   have hgt3 : (17 : Int) ≤ cap := by omega
   go_enter Tryz.func99, Tryz.ntmps99
   go_wp2_with (at_builtin; refine wpList_append_own _ rfl (.tmp 4) (.tmp 9) 118 rfl w.heap.size 63 i0 (.int .u32 0) 1 4 Tryz.underlying118 hi hz0 hz1 hz2 rfl (by decide) _ 0 [] rfl HO.out ad 17 cap ((x.take 17).map (Value.int .u32)) rfl (by have := HL.out; simp; omega) (HN.out 17) (words_oneCell _) (by unfold maxLen; omega) (by omega) (by simp) ?_)
   intro v' w1 hown hg _
   have HB1 : Hid (Below w.heap.size w w1) := ((Below.refl _ _).alloc (Nat.le_refl _) _).grown hg (by simp) (fun k hk => by simp [Value.ownBlock] at hk; omega)
   rw [← List.map_take] at hown
   obtain ⟨g, c', hv'⟩ : ∃ g c', v' = .slice (some ⟨g, 0, none⟩) 17 c' := by
    rcases hown.2 with ⟨_, h⟩ | ⟨g, c', _, h, _⟩
    ·cases h
    ·exact ⟨g, c', h⟩
   subst hv'
   have c16 := World.ownsRow.cellAt hown 16 (by decide)
   have f16 := World.ownsRow.frozenAt hown 16
   have HW1 : Hid (w1.ownsRow w.heap.size 63 1 (.slice (some ⟨g, 0, none⟩) 17 c') 17 (List.map (Value.int .u32) (x.take 17))) := hown
   have hx16 : 16 < x.length := by have := HL.out; omega
   rw [List.getElem?_map, List.getElem?_take_of_lt (by decide), List.getElem?_eq_getElem hx16, Option.map_some] at c16
   have hb16 := HXB.out.get hx16
   have HLD : Hid (∀ d, d = x[16] % 4 → ldig x = (x.take 17).set 16 d) := fun d hd => by unfold ldig; rw [hd, List.getElem?_eq_getElem hx16]; rfl
   generalize x[16] = y at *
   obtain ⟨d, hd⟩ : ∃ d, d = y % 4 := ⟨_, rfl⟩
   have hd1 : Int.tmod y 4 = d := by rw [Int.tmod_eq_emod_of_nonneg (by omega), hd]
   have HLD' : Hid (ldig x = (x.take 17).set 16 d) := HLD.out d hd
   clear hown hg HO HN HLD hd hx16
   go_wp2
   go_ret
   refine ⟨_, rfl, ?_, ?_⟩
   ·unfold Hid
    rw [HLD'.out, List.map_set, Nat.min_eq_left (by omega)]
    exact (HW1.out.stored 16 _).1
   ·exact HB1.out.setCell (p := ⟨g, 16, none⟩) ((HW1.out.lt g (by simp [Value.ownBlock])).1) _
set_option maxRecDepth 8000 in
theorem low_none (cap : Nat) (w : World) : Calls Tryz.prog 99 #[.slice none 0 cap] w fun e w' => ∃ v, e = .returned v ∧ Hid (w'.ownsRow w.heap.size 63 1 v 0 (List.map (Value.int .u32) (ldig []))) ∧ Below w.heap.size w w' := by
 have HO : Hid ((w.alloc (.cells #[] 63)).ownsRow w.heap.size 63 1 (.slice (some ⟨w.heap.size, 0, none⟩) 0 0) 0 []) := World.ownsRow_made w #[] 0 (Nat.le_refl _) (by decide) rfl
 go_enter Tryz.func99, Tryz.ntmps99
 go_wp2
 go_ret
 exact ⟨_, rfl, HO.out, bel1 _ _⟩
set_option maxRecDepth 8000 in
theorem low_c (a : Option Addr) (len cap : Nat) (x : List Int) (w : World) (hr : Ru w a len cap x) (hm : len ≤ 8000000) :
  Calls Tryz.prog 99 #[.slice a len cap] w fun e w' => ∃ v z, e = .returned v ∧ Hid (Byt z) ∧ Hid (leN z = leN x % 1361129467683753853853498429727072845824) ∧ Hid (w'.ownsRow w.heap.size 63 1 v (min 17 len) (List.map (Value.int .u32) z)) ∧ Below w.heap.size w w' := by
 cases a with
 | some ad =>
  refine (low_some ad len cap x w hr hm).mono ?_
  rintro e w' ⟨v, rfl, HO, hb⟩
  exact ⟨v, _, rfl, ldig_byt hr.byt, low_num x hr.byt, HO, hb⟩
 | none =>
  have h0 : len = 0 := by
   apply Classical.byContradiction
   intro hn
   obtain ⟨_, _, h, _⟩ := hr.cell (by omega)
   cases h
  subst h0
  have hx : x = [] := List.eq_nil_of_length_eq_zero hr.hlen
  subst hx
  refine (low_none cap w).mono ?_
  rintro e w' ⟨v, rfl, HO, hb⟩
  exact ⟨v, _, rfl, ldig_byt hr.byt, low_num _ hr.byt, HO, hb⟩
end Go.Proofs.YtmibjgkakolhiaaGreatDoor
/-
 What the reference's zero does. No statement of the seat is proved here.
-/
namespace Go.Proofs.YtmibjgkakolhiaaGreatDoor
open Go.RowKit

set_option maxRecDepth 8000 in
theorem leN_zeros (x : List Int) (k : Nat) (h : x.take k = List.replicate k 0) (hk : x.length ≤ k) : leN x = 0 := by
 rw [List.take_of_length_le hk] at h
 rw [h, leN_zero]
set_option maxRecDepth 8000 in
theorem leN_ne (x : List Int) (hb : Byt x) (k : Nat) (hk : k < x.length) (h : x[k]?.getD 0 ≠ 0) : leN x ≠ 0 := by
 have e : leN x = leN (x.take k) + 256 ^ (x.take k).length * leN (x.drop k) := by
  have := leN_app (x.take k) (x.drop k)
  rwa [List.take_append_drop] at this
 have h1 := (leN_w (x.take k) (hb.take k)).1
 have h2 := (leN_w (x.drop (k + 1)) (hb.drop (k + 1))).1
 have h3 := leN_drop x k hk
 have h4 := hb.at k
 have h5 : 0 < leN (x.drop k) := by omega
 have h6 := Int.mul_pos (pow_pos (x.take k).length) h5
 omega
set_option maxRecDepth 8000 in
set_option maxHeartbeats 1000000 in
theorem zero_c (a : Option Addr) (len cap : Nat) (x : List Int) (w : World) (hr : Ru w a len cap x) (hm : len ≤ 8000000) :
  Calls Tryz.prog 97 #[.slice a len cap] w fun e w' => e = .returned (.bool (decide (leN x = 0))) ∧ w' = w := by
 have HR : Hid (Ru w a len cap x) := hr
 have HL : Hid (x.length = len) := hr.hlen
 clear hr
 obtain ⟨dz, hdz⟩ : ∃ d, d = decide (leN x = 0) := ⟨_, rfl⟩
 have HDZ : Hid (dz = decide (leN x = 0)) := hdz
 rw [← hdz]
 clear hdz
 go_enter Tryz.func97, Tryz.ntmps97
 go_wp2
 go_loopw [3] (fun i wr => ∃ k : Nat, k ≤ len ∧ i = .int .i64 k ∧ wr = w ∧ Hid (x.take k = List.replicate k 0)) (fun i _ => len - (intOf i).toNat)
 case atStart => exact ⟨0, Nat.zero_le _, rfl, rfl, rfl⟩
 case round =>
  obtain ⟨k, hk, rfl, rfl, HZ⟩ := hrel
  have htn : (k : Int).toNat = k := by omega
  by_cases hlt : k < len
  ·have g1 : (k : Int) < len := by omega
   obtain ⟨b, off, rfl, hc⟩ := HR.out.cell (by omega)
   have ck := hc k hlt
   clear hc
   have hb := HR.out.byt.at k
   by_cases hz : x[k]?.getD 0 = 0
   ·have HZ' : Hid (x.take (k + 1) = List.replicate (k + 1) 0) := by
     have hl : k < x.length := by rw [HL.out]; exact hlt
     unfold Hid
     rw [List.getElem?_eq_getElem hl] at hz
     rw [List.take_succ_eq_append_getElem hl, HZ.out, List.replicate_succ', show x[k] = 0 from hz]
    rw [hz] at ck
    clear hb hz
    go_wp2
    go_roundw
    case rel => exact ⟨k + 1, by omega, by go_num, trivial, HZ'⟩
    case measure => simp [intOf]; omega
   ·have hd : dz = false := by
     rw [HDZ.out]
     exact decide_eq_false (leN_ne x HR.out.byt k (by rw [HL.out]; exact hlt) hz)
    subst hd
    generalize x[k]?.getD 0 = xk at *
    have hzb : (xk != 0) = true := by simp [hz]
    go_wp2
    go_ret
    exact ⟨rfl, rfl⟩
  ·have e : k = len := by omega
   subst e
   have hd : dz = true := by
    rw [HDZ.out]
    exact decide_eq_true (leN_zeros x k HZ.out (by rw [HL.out]; exact Nat.le_refl _))
   subst hd
   go_wp2
   go_ret
   exact ⟨rfl, rfl⟩
end Go.Proofs.YtmibjgkakolhiaaGreatDoor
