/-
  BlakeSums' walk. No statement of the seat is proved here.
-/
import Derived.Test.YtgblbhocpafgcaaDoorBKn
import Derived.Test.YtgblbhocpafgcaaDoorKApp
import Derived.Test.YtgblbhocpafgcaaDoorRB2
namespace Go.Proofs.YtgblbhocpafgcaaDoor
open Go.RowKit

theorem tdiv6 (n : Int) (hn : -9223372036854775808 ≤ n ∧ n ≤ 9223372036854775807) : -9223372036854775808 ≤ n.tdiv 6 ∧ n.tdiv 6 ≤ 9223372036854775807 := by
  by_cases h0 : 0 ≤ n
  · rw [Int.tdiv_eq_ediv_of_nonneg h0]
    omega
  · obtain ⟨m, e⟩ : ∃ m, n = -m := ⟨-n, by omega⟩
    rw [e, Int.neg_tdiv, Int.tdiv_eq_ediv_of_nonneg (by omega)]
    omega
set_option maxRecDepth 8000 in
set_option maxHeartbeats 8000000 in
theorem blakeSums_walk (a : Option Addr) (len cap : Nat) (l : List Int) (lg : Int) (near : Bool) (hlen : len ≤ 140737488351232) (hl : -9223372036854775808 ≤ lg ∧ lg ≤ 9223372036854775807) (w : World) (hr : Rd w a len cap l) (hg : Gb w ∧ Gq w) :
    Calls Tryd.prog 4 #[.slice a len cap, .int .i64 lg, .bool near] w fun e w' => e = .returned (.bool true) ∧ Below w.heap.size w w' := by
  have HR : Hid (Rd w a len cap l) := hr
  have HG : Hid (Gb w) := hg.1
  have HQ : Hid (Gq w) := hg.2
  clear hr hg
  go_enter Tryd.func4, Tryd.ntmps4
  go_upto_if 8 with fail
  go_cut [0] from 8 (fun v wx => ∃ (a' : Option Addr) (n' c' : Nat) (l' : List Int), v = .slice a' n' c' ∧ Hid (Rd wx a' n' c' l') ∧ n' ≤ 140737488351232 ∧ Hid (Below w.heap.size w wx))
  case first =>
    cases near
    case true =>
      go_wp2_with fail
      refine (pick_any lg 6 hl (by decide) _).mono ?_
      rintro e w' ⟨i0, rfl, p0, p1, hw⟩
      rw [hw]
      clear hw w'
      obtain ⟨p, rfl⟩ := Int.eq_ofNat_of_zero_le p0
      have h6 : -9223372036854775808 ≤ lg.tdiv 6 ∧ lg.tdiv 6 ≤ 9223372036854775807 := tdiv6 lg hl
      have hw6 : IntKind.i64.wrap (lg.tdiv 6) = lg.tdiv 6 := by rw [IntKind.wrap_i64]; omega
      go_wp2_with fail
      try rw [hw6]
      refine (pick_any (lg.tdiv 6) 3 h6 (by decide) _).mono ?_
      rintro e w' ⟨i0, rfl, q0, q1, hw⟩
      rw [hw]
      clear hw w'
      obtain ⟨q, rfl⟩ := Int.eq_ofNat_of_zero_le q0
      obtain ⟨B, hB⟩ : ∃ B : Nat, B = 64 * p + q := ⟨_, rfl⟩
      have hB1 : 64 * (p : Int) + (q : Int) = (B : Int) := by omega
      have hB2 : B ≤ 2000 := by omega
      clear hB
      go_wp2_with fail
      refine (bytes_c B lg (by omega) _).mono ?_
      rintro e V1 ⟨g1, t, rfl, HT0, HT1, hb⟩
      go_wp2_with fail
      go_meet
      case rel => exact ⟨_, B, B, t, rfl, Rd.owns HT0.out HT1.out, by omega, hb⟩
    case false =>
      go_wp2_with fail
      go_meet
      case rel => exact ⟨a, len, cap, l, rfl, HR, hlen, Below.refl _ _⟩
  case rest =>
    obtain ⟨a', n', c', l', rfl, HR2, hn', HB⟩ := hcut
    have HL2 : Hid (l'.length = n') := HR2.out.hlen
    clear HR hlen
    go_wp2_with fail
    refine (few_s a' n' c' l' _ HR2.out hn').mono ?_
    rintro e V0 ⟨a1, c1, rfl, HF, hb⟩
    replace HR2 : Hid (Rd V0 a' n' c' l') := HR2.out.below hb
    replace HB : Hid (Below w.heap.size w V0) := HB.out.trans (hb.mono HB.out.size)
    clear hb
    go_wp2_with fail
    refine (known7_any _ (HG.out.later HB.out)).mono ?_
    rintro e V1 ⟨rfl, hb⟩
    replace HR2 : Hid (Rd V1 a' n' c' l') := HR2.out.below hb
    replace HF : Hid (Rd V1 a1 n' c1 l') := HF.out.below hb
    replace HB : Hid (Below w.heap.size w V1) := HB.out.trans (hb.mono HB.out.size)
    clear hb
    have hb1 := bel1 V1 (.cells #[.slice a1 n' c1] 28)
    have Y1 : Hid (RdL (V1.alloc (.cells #[.slice a1 n' c1] 28)) (some ⟨V1.heap.size, 0, none⟩) 1 [l']) := RdL.one V1 _ n' c1 _ 28 HF.out
    replace HR2 : Hid (Rd (V1.alloc (.cells #[.slice a1 n' c1] 28)) a' n' c' l') := HR2.out.below hb1
    replace HF : Hid (Rd (V1.alloc (.cells #[.slice a1 n' c1] 28)) a1 n' c1 l') := HF.out.below hb1
    replace HB : Hid (Below w.heap.size w (V1.alloc (.cells #[.slice a1 n' c1] 28))) := HB.out.trans (hb1.mono HB.out.size)
    go_wp2_with fail
    refine (sum_c (some ⟨V1.heap.size, 0, none⟩) 1 1 [l'] _ Y1.out (HG.out.later HB.out) (by decide) (by simp only [List.flatten_cons, List.flatten_nil, List.append_nil]; rw [HL2.out]; omega)).mono ?_
    rintro e V2 ⟨S1, rfl, HS1, hb⟩
    replace HR2 : Hid (Rd V2 a' n' c' l') := HR2.out.below hb
    replace HF : Hid (Rd V2 a1 n' c1 l') := HF.out.below hb
    replace HB : Hid (Below w.heap.size w V2) := HB.out.trans (hb.mono HB.out.size)
    have hS1n : Bn 32 S1 := by rw [HS1.out]; exact sum7_bn _
    clear hb hb1 Y1
    go_wp2_with fail
    refine (rsum_c a' n' c' l' _ HR2.out (by omega) (HQ.out.later HB.out)).mono ?_
    rintro e V3 ⟨S2, rfl, HS2, hb⟩
    have s1 := str_of (HF.out.below hb)
    have s2 := str_of (HR2.out.below hb)
    replace HB : Hid (Below w.heap.size w V3) := HB.out.trans (hb.mono HB.out.size)
    have heq : ∀ u, Sem.run Tryd.prog (binOp .eql 25 (.agg (List.map (Value.int .u8) S1).toArray) (.agg (List.map (Value.int .u8) S2).toArray)) u = .ok (.bool true) u := fun u => eql32 S1 S2 hS1n (by rw [HS1.out, HS2.out]; simp) u
    clear hb
    go_wp2
    go_ret
    exact ⟨rfl, HB.out⟩
end Go.Proofs.YtgblbhocpafgcaaDoor
