/-
  What the reference's digits does. No statement of the seat is proved here.
-/
import Derived.Test.YtppmodncljigcaaDoorPRBase
namespace Go.Proofs.YtppmodncljigcaaDoor
open Go.RowKit

set_option maxHeartbeats 1000000 in
theorem digits_c (a : Option Addr) (len cap : Nat) (l : List Int) (w : World) (hr : Rd w a len cap l) (hm : len ≤ 8000000) :
    Calls Tryd.prog 48 #[.slice a len cap] w fun e w' => ∃ v, e = .returned v ∧ Hid (w'.ownsRow w.heap.size 41 1 v len (List.map (Value.int .u32) l)) ∧ Below w.heap.size w w' := by
  obtain ⟨i0, hi, hz0, hz1, hz2⟩ := info_parts infoU
  have HR : Hid (Rd w a len cap l) := hr
  have HL : Hid (l.length = len) := hr.hlen
  clear hr
  go_enter Tryd.func48, Tryd.ntmps48
  go_wp2
  go_loopw [4, 3] (fun i b wr => ∃ (k : Nat) (v : Value), k ≤ len ∧ i = .int .i64 k ∧ b = v ∧ Hid (wr.ownsRow w.heap.size 41 1 v k (List.map (Value.int .u32) (l.take k))) ∧ Hid (Below w.heap.size w wr)) (fun i _ _ => len - (intOf i).toNat)
  case atStart => exact ⟨0, _, Nat.zero_le _, rfl, rfl, World.ownsRow_nil _ _ _ _, Below.refl _ _⟩
  case round =>
    obtain ⟨k, v, hk, rfl, rfl, HO, HB⟩ := hrel
    by_cases hlt : k < len
    · have g1 : (k : Int) < len := by omega
      have htn : (k : Int).toNat = k := by omega
      obtain ⟨b, off, rfl, hc⟩ := (HR.out.below HB.out).cell (by omega)
      have ck := hc k hlt
      have hb := HR.out.byt.at k
      have HNX : Hid (l.take (k + 1) = l.take k ++ [l[k]?.getD 0]) := by
        have hl : k < l.length := by rw [HL.out]; exact hlt
        unfold Hid
        rw [List.take_succ_eq_append_getElem hl, List.getElem?_eq_getElem hl]
        rfl
      clear hc
      generalize l[k]?.getD 0 = x at *
      obtain ⟨hb0, hb1⟩ := hb
      have hw : IntKind.u32.wrap x = x := by rw [IntKind.wrap_u32']; omega
      go_wp2_with (at_builtin; refine wpList_append_own _ rfl (.tmp 11) (.tmp 17) 76 rfl w.heap.size 41 i0 (.int .u32 0) 1 4 Tryd.underlying76 hi hz0 hz1 hz2 rfl (by decide) _ k (List.map (Value.int .u32) (l.take k)) rfl (HO.out.alloc _) ⟨wr.heap.size, 0, none⟩ 1 1 [.int .u32 x] rfl rfl (fun j u hu => one_news32 wr _ _ j u hu) (by intro u hu; simp at hu; rw [hu]; rfl) (by unfold maxLen; omega) (by omega) (by have := HB.out.size; simp; omega) ?_)
      intro v' w1 hown hg _
      have HO' : Hid (w1.ownsRow w.heap.size 41 1 v' (k + 1) (List.map (Value.int .u32) (l.take (k + 1)))) := by unfold Hid; rw [HNX.out, List.map_append, List.map_take]; exact hown
      have HB' : Hid (Below w.heap.size w w1) := (HB.out.alloc HB.out.size _).grown hg (by have := HB.out.size; simp; omega) (fun j hj => ((HO.out.lt j hj).1))
      clear hown hg HO HB
      go_wp2
      go_roundw
      case rel => exact ⟨k + 1, v', by omega, by go_num, rfl, HO', HB'⟩
      case measure => simp [intOf]; omega
    · have e : k = len := by omega
      subst e
      have e2 : l.take k = l := List.take_of_length_le (by rw [HL.out]; exact Nat.le_refl _)
      rw [e2] at HO
      go_wp2
      go_ret
      exact ⟨_, rfl, HO, HB.out⟩
end Go.Proofs.YtppmodncljigcaaDoor
