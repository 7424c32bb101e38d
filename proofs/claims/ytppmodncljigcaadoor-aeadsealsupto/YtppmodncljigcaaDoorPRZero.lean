/-
  What the reference's zero does. No statement of the seat is proved here.
-/
import Derived.Test.YtppmodncljigcaaDoorPRBase
namespace Go.Proofs.YtppmodncljigcaaDoor
open Go.RowKit

theorem leN_zeros (x : List Int) (k : Nat) (h : x.take k = List.replicate k 0) (hk : x.length ≤ k) : leN x = 0 := by
  rw [List.take_of_length_le hk] at h
  rw [h, leN_zero]
theorem leN_ne (x : List Int) (hb : Byt x) (k : Nat) (hk : k < x.length) (h : x[k]?.getD 0 ≠ 0) : leN x ≠ 0 := by
  have e : leN x = leN (x.take k) + 256 ^ (x.take k).length * leN (x.drop k) := by
    have := leN_app (x.take k) (x.drop k)
    rwa [List.take_append_drop] at this
  have h1 := (leN_w (x.take k) (hb.take k)).1
  have h2 := (leN_w (x.drop (k + 1)) (hb.drop (k + 1))).1
  have h3 := leN_drop x k hk
  have h4 := hb.at k
  have h5 : 0 < leN (x.drop k) := by omega
  have h6 := Int.mul_pos (pow_pos (x.take k).length) h5
  omega
set_option maxHeartbeats 1000000 in
theorem zero_c (a : Option Addr) (len cap : Nat) (x : List Int) (w : World) (hr : Ru w a len cap x) (hm : len ≤ 8000000) :
    Calls Tryd.prog 56 #[.slice a len cap] w fun e w' => e = .returned (.bool (decide (leN x = 0))) ∧ w' = w := by
  have HR : Hid (Ru w a len cap x) := hr
  have HL : Hid (x.length = len) := hr.hlen
  clear hr
  obtain ⟨dz, hdz⟩ : ∃ d, d = decide (leN x = 0) := ⟨_, rfl⟩
  have HDZ : Hid (dz = decide (leN x = 0)) := hdz
  rw [← hdz]
  clear hdz
  go_enter Tryd.func56, Tryd.ntmps56
  go_wp2
  go_loopw [3] (fun i wr => ∃ k : Nat, k ≤ len ∧ i = .int .i64 k ∧ wr = w ∧ Hid (x.take k = List.replicate k 0)) (fun i _ => len - (intOf i).toNat)
  case atStart => exact ⟨0, Nat.zero_le _, rfl, rfl, rfl⟩
  case round =>
    obtain ⟨k, hk, rfl, rfl, HZ⟩ := hrel
    have htn : (k : Int).toNat = k := by omega
    by_cases hlt : k < len
    · have g1 : (k : Int) < len := by omega
      obtain ⟨b, off, rfl, hc⟩ := HR.out.cell (by omega)
      have ck := hc k hlt
      clear hc
      have hb := HR.out.byt.at k
      by_cases hz : x[k]?.getD 0 = 0
      · have HZ' : Hid (x.take (k + 1) = List.replicate (k + 1) 0) := by
          have hl : k < x.length := by rw [HL.out]; exact hlt
          unfold Hid
          rw [List.getElem?_eq_getElem hl] at hz
          rw [List.take_succ_eq_append_getElem hl, HZ.out, List.replicate_succ', show x[k] = 0 from hz]
        rw [hz] at ck
        clear hb hz
        go_wp2
        go_roundw
        case rel => exact ⟨k + 1, by omega, by go_num, trivial, HZ'⟩
        case measure => simp [intOf]; omega
      · have hd : dz = false := by
          rw [HDZ.out]
          exact decide_eq_false (leN_ne x HR.out.byt k (by rw [HL.out]; exact hlt) hz)
        subst hd
        generalize x[k]?.getD 0 = xk at *
        have hzb : (xk != 0) = true := by simp [hz]
        go_wp2
        go_ret
        exact ⟨rfl, rfl⟩
    · have e : k = len := by omega
      subst e
      have hd : dz = true := by
        rw [HDZ.out]
        exact decide_eq_true (leN_zeros x k HZ.out (by rw [HL.out]; exact Nat.le_refl _))
      subst hd
      go_wp2
      go_ret
      exact ⟨rfl, rfl⟩
end Go.Proofs.YtppmodncljigcaaDoor
