/-
  What the reference's high does. No statement of the seat is proved here.
-/
import Derived.Test.YtjmdgmbkkkoamaaDoorPk27
namespace Go.Proofs.YtjmdgmbkkkoamaaDoor
open Go.RowKit

/-- A quarter of a number, digit by digit. -/
def hdig : List Int → List Int
  | [] => []
  | a :: r => (a / 4 + r[0]?.getD 0 % 4 * 64) :: hdig r
set_option maxRecDepth 8000 in
theorem hdig_len : ∀ l, (hdig l).length = l.length
  | [] => rfl
  | a :: r => by rw [hdig, List.length_cons, hdig_len r, List.length_cons]
set_option maxRecDepth 8000 in
theorem hdig_byt : ∀ {l : List Int}, Byt l → Byt (hdig l)
  | [], _ => Byt.nil
  | a :: r, h => by
    have h0 := h a (by simp)
    have hr : Byt r := fun y hy => h y (List.mem_cons_of_mem _ hy)
    have h1 := hr.at 0
    exact Byt.cons (by omega) (by omega) (hdig_byt hr)
set_option maxRecDepth 8000 in
theorem hdig_at : ∀ (l : List Int) (j : Nat), j < l.length → (hdig l)[j]? = some (l[j]?.getD 0 / 4 + l[j + 1]?.getD 0 % 4 * 64)
  | a :: r, 0, _ => by simp [hdig]
  | a :: r, j + 1, h => by
    rw [hdig, List.getElem?_cons_succ, hdig_at r j (by simpa using h)]
    simp
set_option maxRecDepth 8000 in
theorem hdig_num : ∀ (l : List Int), Byt l → leN (hdig l) = leN l / 4
  | [], _ => rfl
  | a :: r, h => by
    have h0 := h a (by simp)
    have hr : Byt r := fun y hy => h y (List.mem_cons_of_mem _ hy)
    rw [hdig, leN, leN, hdig_num r hr]
    cases r with
    | nil => simp [leN]
    | cons b s =>
      have h1 := hr b (by simp)
      have e : leN (b :: s) = b + 256 * leN s := rfl
      rw [show (b :: s)[0]?.getD 0 = b from rfl, e]
      omega
set_option maxRecDepth 8000 in
theorem high_num (x : List Int) (hb : Byt x) : leN (hdig (x.drop 16)) = leN x / 1361129467683753853853498429727072845824 := by
  rw [hdig_num _ (hb.drop 16)]
  have e := leN_app (x.take 16) (x.drop 16)
  rw [List.take_append_drop] at e
  have h1 := leN_w (x.take 16) (hb.take 16)
  by_cases h : 16 ≤ x.length
  · have hl : (x.take 16).length = 16 := by rw [List.length_take]; omega
    rw [hl] at e h1
    have e2 : (256 : Int) ^ 16 = 340282366920938463463374607431768211456 := by decide
    rw [e2] at e h1
    omega
  · rw [leN_dropN x 16 (by omega)] at e ⊢
    have hl : (x.take 16).length ≤ 16 := by rw [List.length_take]; omega
    have := (pow256 _ hl).2
    omega
set_option maxRecDepth 8000 in
set_option maxHeartbeats 2000000 in
theorem high_c (a : Option Addr) (len cap : Nat) (x : List Int) (w : World) (hr : Ru w a len cap x) (hm : len ≤ 8000000) :
    Calls Tryd.prog 67 #[.slice a len cap] w fun e w' => ∃ v z, e = .returned v ∧ Hid (Byt z) ∧ Hid (leN z = leN x / 1361129467683753853853498429727072845824) ∧ Hid (w'.ownsRow w.heap.size 57 1 v (len - 16) (List.map (Value.int .u32) z)) ∧ Below w.heap.size w w' := by
  obtain ⟨i0, hi, hz0, hz1, hz2⟩ := info_parts infoU
  have HR : Hid (Ru w a len cap x) := hr
  have HL : Hid ((x.drop 16).length = len - 16) := by unfold Hid; rw [List.length_drop, hr.hlen]
  obtain ⟨H, hH⟩ : ∃ H, H = hdig (x.drop 16) := ⟨_, rfl⟩
  have HHB : Hid (Byt H) := by unfold Hid; rw [hH]; exact hdig_byt (hr.byt.drop 16)
  have HHL : Hid (H.length = len - 16) := by unfold Hid; rw [hH, hdig_len, HL.out]
  have HHN : Hid (leN H = leN x / 1361129467683753853853498429727072845824) := by unfold Hid; rw [hH]; exact high_num x hr.byt
  have HHA : Hid (∀ j, j < len - 16 → H[j]? = some (x[16 + j]?.getD 0 / 4 + x[16 + j + 1]?.getD 0 % 4 * 64)) := fun j hj => by
    rw [hH, hdig_at _ j (by rw [HL.out]; exact hj), List.getElem?_drop, List.getElem?_drop]
    rfl
  clear hr hH
  go_enter Tryd.func67, Tryd.ntmps67
  go_wp2
  go_loopw [4, 3] (fun i b wr => ∃ (k : Nat) (v : Value), k ≤ len - 16 ∧ i = .int .i64 (16 + (k : Int)) ∧ b = v ∧ Hid (wr.ownsRow w.heap.size 57 1 v k (List.map (Value.int .u32) (H.take k))) ∧ Hid (Below w.heap.size w wr)) (fun i _ _ => len - (intOf i).toNat)
  case atStart => exact ⟨0, _, Nat.zero_le _, rfl, rfl, World.ownsRow_nil _ _ _ _, Below.refl _ _⟩
  case round =>
    obtain ⟨k, v, hk, rfl, rfl, HO, HB⟩ := hrel
    have htn : (16 + (k : Int)).toNat = 16 + k := by omega
    by_cases hlt : k < len - 16
    · have g1 : 16 + (k : Int) < len := by omega
      obtain ⟨b, off, rfl, hc⟩ := (HR.out.below HB.out).cell (by omega)
      have ck := hc (16 + k) (by omega)
      have hb := HR.out.byt.at (16 + k)
      have hb2 := HR.out.byt.at (16 + k + 1)
      have hha := HHA.out k hlt
      have hkl : k < H.length := by rw [HHL.out]; exact hlt
      have HNX : Hid (∀ d, d = x[16 + k]?.getD 0 / 4 + x[16 + k + 1]?.getD 0 % 4 * 64 → H.take (k + 1) = H.take k ++ [d]) := fun d hd => by
        rw [List.getElem?_eq_getElem hkl] at hha
        rw [List.take_succ_eq_append_getElem hkl, Option.some.inj hha, hd]
      clear hha
      by_cases hlt2 : 16 + k + 1 < len
      · have g2 : 16 + (k : Int) + 1 < len := by omega
        have htn2 : (16 + (k : Int) + 1).toNat = 16 + k + 1 := by omega
        have ck2 := hc (16 + k + 1) hlt2
        clear hc
        generalize x[16 + k]?.getD 0 = p at *
        generalize x[16 + k + 1]?.getD 0 = q at *
        obtain ⟨hb0, hb1⟩ := hb
        obtain ⟨hb20, hb21⟩ := hb2
        obtain ⟨d, hd⟩ : ∃ d, d = p / 4 + q % 4 * 64 := ⟨_, rfl⟩
        have hd1 : Int.tdiv p 4 = p / 4 := Int.tdiv_eq_ediv_of_nonneg (by omega)
        have hd2 : Int.tmod q 4 = q % 4 := Int.tmod_eq_emod_of_nonneg (by omega)
        have hd3 : p / 4 + q % 4 * 64 = d := hd.symm
        have hd4 : 0 ≤ d ∧ d ≤ 255 := by omega
        have HTK := HNX.out d hd
        clear HNX hd
        have HTK' : Hid (H.take (k + 1) = H.take k ++ [d]) := HTK
        clear HTK
        go_wp2_with (at_builtin; refine wpList_append_own _ rfl (.tmp 31) (.tmp 33) 77 rfl w.heap.size 57 i0 (.int .u32 0) 1 4 Tryd.underlying77 hi hz0 hz1 hz2 rfl (by decide) _ k (List.map (Value.int .u32) (H.take k)) rfl (HO.out.alloc _) ⟨wr.heap.size, 0, none⟩ 1 1 [.int .u32 d] rfl rfl (fun j u hu => one_news32 wr _ _ j u hu) (by intro u hu; simp at hu; rw [hu]; rfl) (by unfold maxLen; omega) (by omega) (by have := HB.out.size; simp; omega) ?_)
        intro v' w1 hown hg _
        have HO' : Hid (w1.ownsRow w.heap.size 57 1 v' (k + 1) (List.map (Value.int .u32) (H.take (k + 1)))) := by unfold Hid; rw [HTK'.out, List.map_append, List.map_take]; exact hown
        have HB' : Hid (Below w.heap.size w w1) := (HB.out.alloc HB.out.size _).grown hg (by have := HB.out.size; simp; omega) (fun j hj => ((HO.out.lt j hj).1))
        clear hown hg HO HB
        go_wp2
        go_roundw
        case rel => exact ⟨k + 1, v', by omega, by go_num, rfl, HO', HB'⟩
        case measure => simp [intOf]; omega
      · have g2 : ¬ 16 + (k : Int) + 1 < len := by omega
        have eq0 : x[16 + k + 1]?.getD 0 = 0 := by rw [List.getElem?_eq_none (by rw [HR.out.hlen]; omega)]; rfl
        clear hc
        rw [eq0] at HNX
        clear hb2 eq0
        generalize x[16 + k]?.getD 0 = p at *
        obtain ⟨hb0, hb1⟩ := hb
        obtain ⟨d, hd⟩ : ∃ d, d = p / 4 := ⟨_, rfl⟩
        have hd1 : Int.tdiv p 4 = d := by rw [Int.tdiv_eq_ediv_of_nonneg (by omega), hd]
        have hd4 : 0 ≤ d ∧ d ≤ 255 := by omega
        have HTK := HNX.out d (by omega)
        clear HNX hd
        have HTK' : Hid (H.take (k + 1) = H.take k ++ [d]) := HTK
        clear HTK
        go_wp2_with (at_builtin; refine wpList_append_own _ rfl (.tmp 31) (.tmp 33) 77 rfl w.heap.size 57 i0 (.int .u32 0) 1 4 Tryd.underlying77 hi hz0 hz1 hz2 rfl (by decide) _ k (List.map (Value.int .u32) (H.take k)) rfl (HO.out.alloc _) ⟨wr.heap.size, 0, none⟩ 1 1 [.int .u32 d] rfl rfl (fun j u hu => one_news32 wr _ _ j u hu) (by intro u hu; simp at hu; rw [hu]; rfl) (by unfold maxLen; omega) (by omega) (by have := HB.out.size; simp; omega) ?_)
        intro v' w1 hown hg _
        have HO' : Hid (w1.ownsRow w.heap.size 57 1 v' (k + 1) (List.map (Value.int .u32) (H.take (k + 1)))) := by unfold Hid; rw [HTK'.out, List.map_append, List.map_take]; exact hown
        have HB' : Hid (Below w.heap.size w w1) := (HB.out.alloc HB.out.size _).grown hg (by have := HB.out.size; simp; omega) (fun j hj => ((HO.out.lt j hj).1))
        clear hown hg HO HB
        go_wp2
        go_roundw
        case rel => exact ⟨k + 1, v', by omega, by go_num, rfl, HO', HB'⟩
        case measure => simp [intOf]; omega
    · have e : k = len - 16 := by omega
      have g1 : ¬ 16 + (k : Int) < len := by omega
      have e2 : H.take k = H := List.take_of_length_le (by rw [HHL.out]; omega)
      rw [e2, e] at HO
      clear e
      go_wp2
      go_ret
      exact ⟨_, rfl, H, HHB, HHN, HO, HB.out⟩
end Go.Proofs.YtjmdgmbkkkoamaaDoor
