/-
  KdfHmac's walk. No statement of the seat is proved here.
-/
import Derived.Test.YtiicepinnfgknaaDoorEKn
namespace Go.Proofs.YtiicepinnfgknaaDoor
open Go.RowKit

set_option maxRecDepth 8000 in
set_option maxHeartbeats 8000000 in
theorem kdfHmac_walk (a0 : Option Addr) (len0 cap0 : Nat) (l0 : List Int) (a1 : Option Addr) (len1 cap1 : Nat) (l1 : List Int) (lg : Int) (hlen0 : len0 ≤ 140737488351232) (hlen1 : len1 ≤ 140737488351232) (hl : -9223372036854775808 ≤ lg ∧ lg ≤ 9223372036854775807) (w : World) (hr0 : Rd w a0 len0 cap0 l0) (hr1 : Rd w a1 len1 cap1 l1) (hg : Gb w ∧ Gq w) :
    Calls Tryd.prog 4 #[.slice a0 len0 cap0, .slice a1 len1 cap1, .int .i64 lg] w fun e w' => e = .returned (.bool true) ∧ Below w.heap.size w w' := by
  have HR0 : Hid (Rd w a0 len0 cap0 l0) := hr0
  have HR1 : Hid (Rd w a1 len1 cap1 l1) := hr1
  have HG : Hid (Gb w) := hg.1
  have HQ : Hid (Gq w) := hg.2
  clear hr0 hr1 hg
  go_enter Tryd.func4, Tryd.ntmps4
  go_upto_if 11 with fail
  go_cut [0] from 9 (fun v wx => ∃ (a' : Option Addr) (n' c' : Nat) (l' : List Int), v = .slice a' n' c' ∧ Hid (Rd wx a' n' c' l') ∧ n' ≤ 140737488351232 ∧ Hid (Below w.heap.size w wx))
  case first =>
    by_cases h3 : lg.tmod 3 = 0
    · have q3 : (lg.tmod 3 == 0) = true := by rw [h3]; rfl
      clear h3
      go_wp2_with fail
      refine (pick_any lg 10 hl (by decide) _).mono ?_
      rintro e w' ⟨i0, rfl, p0, p1, hw⟩
      rw [hw]
      clear hw w'
      obtain ⟨p, rfl⟩ := Int.eq_ofNat_of_zero_le p0
      obtain ⟨B, hB⟩ : ∃ B : Nat, B = 60 + p := ⟨_, rfl⟩
      have hB1 : 60 + (p : Int) = (B : Int) := by omega
      have hB2 : B ≤ 2000 := by omega
      clear hB
      go_wp2_with fail
      refine (bytes_c B lg (by omega) _).mono ?_
      rintro e V1 ⟨g1, t, rfl, HT0, HT1, hb⟩
      go_wp2_with fail
      go_meet
      case rel => exact ⟨_, B, B, t, rfl, Rd.owns HT0.out HT1.out, by omega, hb⟩
    · have q3 : (lg.tmod 3 == 0) = false := by simpa using h3
      clear h3
      go_wp2_with fail
      go_meet
      case rel => exact ⟨a0, len0, cap0, l0, rfl, HR0, hlen0, Below.refl _ _⟩
  case rest =>
    obtain ⟨a', n', c', l', rfl, HR2, hn', HB⟩ := hcut
    have HL2 : Hid (l'.length = n') := HR2.out.hlen
    replace HR1 : Hid (Rd wc a1 len1 cap1 l1) := HR1.out.below HB.out
    clear HR0 hlen0
    go_wp2_with fail
    refine (few_s a' n' c' l' _ HR2.out hn').mono ?_
    rintro e V0 ⟨b0, d0, rfl, HF0, hb⟩
    replace HR2 : Hid (Rd V0 a' n' c' l') := HR2.out.below hb
    replace HR1 : Hid (Rd V0 a1 len1 cap1 l1) := HR1.out.below hb
    replace HB : Hid (Below w.heap.size w V0) := HB.out.trans (hb.mono HB.out.size)
    clear hb
    go_wp2_with fail
    refine (few_s a1 len1 cap1 l1 _ HR1.out hlen1).mono ?_
    rintro e V1 ⟨b1, d1, rfl, HF1, hb⟩
    replace HR2 : Hid (Rd V1 a' n' c' l') := HR2.out.below hb
    replace HR1 : Hid (Rd V1 a1 len1 cap1 l1) := HR1.out.below hb
    replace HF0 : Hid (Rd V1 b0 n' d0 l') := HF0.out.below hb
    replace HB : Hid (Below w.heap.size w V1) := HB.out.trans (hb.mono HB.out.size)
    clear hb
    go_wp2_with fail
    refine (known8_any _ (HG.out.later HB.out) (HQ.out.later HB.out)).mono ?_
    rintro e V2 ⟨rfl, hb⟩
    replace HR2 : Hid (Rd V2 a' n' c' l') := HR2.out.below hb
    replace HR1 : Hid (Rd V2 a1 len1 cap1 l1) := HR1.out.below hb
    replace HF0 : Hid (Rd V2 b0 n' d0 l') := HF0.out.below hb
    replace HF1 : Hid (Rd V2 b1 len1 d1 l1) := HF1.out.below hb
    replace HB : Hid (Below w.heap.size w V2) := HB.out.trans (hb.mono HB.out.size)
    clear hb
    go_wp2_with fail
    refine (hmac_c b0 n' d0 l' b1 len1 d1 l1 _ HF0.out HF1.out (HG.out.later HB.out) (by omega) (by omega)).mono ?_
    rintro e V3 ⟨S1, rfl, HS1, hb⟩
    replace HR2 : Hid (Rd V3 a' n' c' l') := HR2.out.below hb
    replace HR1 : Hid (Rd V3 a1 len1 cap1 l1) := HR1.out.below hb
    replace HF0 : Hid (Rd V3 b0 n' d0 l') := HF0.out.below hb
    replace HF1 : Hid (Rd V3 b1 len1 d1 l1) := HF1.out.below hb
    replace HB : Hid (Below w.heap.size w V3) := HB.out.trans (hb.mono HB.out.size)
    clear hb
    go_wp2_with fail
    refine (rhmac_c a' n' c' l' a1 len1 cap1 l1 _ HR2.out HR1.out (HQ.out.later HB.out) (by omega) (by omega)).mono ?_
    rintro e V4 ⟨S2, rfl, HS2, hb⟩
    have s1 := str_of (HF0.out.below hb)
    have s2 := str_of (HR2.out.below hb)
    have s3 := str_of (HF1.out.below hb)
    have s4 := str_of (HR1.out.below hb)
    replace HB : Hid (Below w.heap.size w V4) := HB.out.trans (hb.mono HB.out.size)
    have hS1n : Bn 32 S1 := by rw [HS1.out]; exact hm8_bn _ _
    have heq : ∀ u, Sem.run Tryd.prog (binOp .eql 25 (.agg (List.map (Value.int .u8) S1).toArray) (.agg (List.map (Value.int .u8) S2).toArray)) u = .ok (.bool true) u := fun u => eql32 S1 S2 hS1n (by rw [HS1.out, HS2.out]) u
    clear hb HR1 HR2 HF0 HF1
    go_wp2
    go_ret
    exact ⟨rfl, HB.out⟩
end Go.Proofs.YtiicepinnfgknaaDoor
