/-
 ShakeLong's walk. No statement of the seat is proved here.
-/
import Derived.Test.YtlnbjehimabaiaaGreatDoorPk1
import Derived.Test.YtlnbjehimabaiaaGreatDoorPk46
import Derived.Test.YtlnbjehimabaiaaGreatDoorPk35
import Derived.Test.YtlnbjehimabaiaaGreatDoorPk9
namespace Go.Proofs.YtlnbjehimabaiaaGreatDoor
open Go.RowKit
set_option maxRecDepth 8000

set_option maxHeartbeats 4000000 in
theorem shakeLong_walk (seed more : Int) (hs : -9223372036854775808 ≤ seed ∧ seed ≤ 9223372036854775807) (hm : -9223372036854775808 ≤ more ∧ more ≤ 9223372036854775807) (w : World) (hg : Gs w) :
  Calls Tryz.prog 7 #[.int .i64 seed, .int .i64 more] w fun e w' => e = .returned (.bool true) ∧ Below w.heap.size w w' := by
 have HG : Hid (Gs w) := hg
 clear hg
 go_enter Tryz.func7, Tryz.ntmps7
 go_wp2_with fail
 refine (pick_any seed 1000 hs (by decide) _).mono ?_
 rintro e w' ⟨i0, rfl, p0, p1, hw⟩
 rw [hw]
 clear hw w'
 go_wp2_with fail
 refine (pair_l none 0 0 [] none 0 0 [] i0 (by omega) _ (Rd.nil _ _ _ (fun _ => rfl)) (Rd.nil _ _ _ (fun _ => rfl)) HG.out (by decide) (by decide)).mono ?_
 rintro e V1 ⟨ba, bb, a, x, b, y, rfl, kba, hab, HSB, ZA, ZB, hb⟩
 have kbb : w.heap.size ≤ bb := by omega
 replace HG := hidp (HG.out.later hb)
 have HB : Hid (Below w.heap.size w V1) := hb
 clear hb
 go_wp2_with fail
 refine (known11_any _ HG.out).mono ?_
 rintro e V2 ⟨rfl, hb⟩
 replace HG := hidp (HG.out.later hb)
 replace ZA := hidp (ZA.out.later hb)
 replace ZB := hidp (ZB.out.later hb)
 replace HB := hidp (HB.out.trans (hb.mono HB.out.size))
 clear hb
 go_wp2_with fail
 refine (pick_any more 5 hm (by decide) _).mono ?_
 rintro e w' ⟨i1, rfl, p2, p3, hw⟩
 rw [hw]
 clear hw w'
 go_upto_region 5 with fail
 obtain ⟨n, hn⟩ : ∃ n : Nat, (n : Int) = 3898 + i1 := ⟨(3898 + i1).toNat, by omega⟩
 rw [← hn]
 have hn1 : n ≤ 3902 := by omega
 have HN3 : Hid (3898 ≤ n) := by unfold Hid; omega
 clear hn p2 p3
 have kla := ZA.out.lt
 obtain ⟨V3, hmk, HO, hb⟩ := make_l V2 n (by omega)
 obtain ⟨gm, hgm⟩ : ∃ q, q = V2.heap.size := ⟨_, rfl⟩
 rw [← hgm] at hmk HO kla
 have HRM : Hid (Rd V3 (some ⟨gm, 0, none⟩) n n (List.replicate n 0)) := HO.rd
 clear HO hgm
 replace HG := hidp (HG.out.later hb)
 replace ZA := hidp (ZA.out.later hb)
 replace ZB := hidp (ZB.out.later hb)
 replace HB := hidp (HB.out.trans (hb.mono HB.out.size))
 clear hb
 by_cases h39 : 3900 < n
 ·have q1 : (n : Int) > 3900 := by omega
  as_aux_lemma =>
   go_wp2_with fail
   refine (write11_long ba true a x (s11 []) ⟨z9l, z9l, false⟩ 0 (by decide) rfl (some ⟨gm, 0, none⟩) n n _ ZA.out (by omega)).mono ?_
   rintro e V4 ⟨rfl, hb⟩
   clear hmk
   replace HG := hidp (HG.out.later hb)
   replace ZA := hidp (ZA.out.later hb)
   replace ZB := hidp (ZB.out.later hb)
   replace HRM := hidp (HRM.out.below hb)
   replace HB := hidp (HB.out.trans (hb.mono HB.out.size))
   clear hb
   go_wp2_with fail
   refine (turn11_c ba true a x (s11 []) ⟨z9l, z9l, false⟩ 0 (by decide) _ ZA.out).mono ?_
   rintro e V5 ⟨rfl, hb⟩
   rw [show (decide (0 < 3) && wr11 true 0) = true from rfl]
   replace HG := hidp (HG.out.later hb)
   replace ZA := hidp (ZA.out.later hb)
   replace ZB := hidp (ZB.out.later hb)
   replace HRM := hidp (HRM.out.below hb)
   replace HB := hidp (HB.out.trans (hb.mono HB.out.size))
   clear hb
   clear HRM
   go_wp2_with fail
   refine (w0_c ba a x (s11 []) ⟨z9l, z9l, false⟩ none 0 0 [] _ ZA.out HG.out (Rd.nil _ _ _ (fun _ => rfl)) nq_nil (by decide) (by show (0 : Int) ≠ 18446744073709551615; decide)).mono ?_
   rintro e V6 ⟨aY, nY, cY, Y, rfl, HY, RY, Z', hb, hfY, hnY⟩
   replace HG : Hid (Gs V6) := ZA.out.gs HG.out hb
   replace ZB : Hid (Zs V6 bb false b y (s11 []) ⟨z9l, z9l, false⟩ false (0 : Nat)) := ZB.out.extb hb (by omega)
   replace HB : Hid (Below w.heap.size w V6) := hb.below HB.out kba
   replace ZA := Z'
   clear Z' hb
   clear hfY
   have hl : nY = 32 := by rw [← RY.out.hlen, HY.out]; exact x0_len x [] (s11 []) rfl
   subst hl
   clear HY RY
   go_wp2
   go_ret
   exact ⟨rfl, HB.out⟩
 ·have q1 : ¬ (n : Int) > 3900 := by omega
  as_aux_lemma =>
   have hq : Hid (Nq ba (some ⟨gm, 0, none⟩) n) := nq_at (by omega)
   have klba : ba < V3.heap.size := ZA.out.lt
   have klbb : bb < V3.heap.size := ZB.out.lt
   go_wp2_with fail
   refine (w0_c ba a x (s11 []) ⟨z9l, z9l, false⟩ (some ⟨gm, 0, none⟩) n n (List.replicate n 0) _ ZA.out HG.out HRM.out hq.out (by omega) (by show (0 : Int) ≠ 18446744073709551615; decide)).mono ?_
   rintro e V4 ⟨aX, nX, cX, X, rfl, HX, RX, Z', hb, hfX, hnX⟩
   have NXba : Hid (Nq ba aX nX) := hfX.nq klba
   clear klba
   have NXbb : Hid (Nq bb aX nX) := hfX.nq klbb
   clear klbb
   replace HG : Hid (Gs V4) := ZA.out.gs HG.out hb
   replace ZB : Hid (Zs V4 bb false b y (s11 []) ⟨z9l, z9l, false⟩ false (0 : Nat)) := ZB.out.extb hb (by omega)
   replace HB : Hid (Below w.heap.size w V4) := hb.below HB.out kba
   replace ZA := Z'
   clear Z' hb
   clear hfX
   clear hmk HRM hq
   have HXL : Hid (nX = 32 + n) := by unfold Hid; rw [← RX.out.hlen, HX.out, x0_len x _ (s11 []) rfl, List.length_replicate]
   go_wp2_with fail
   refine (r0_c bb b y x (s11 []) ⟨z9l, z9l, false⟩ aX nX cX X (List.replicate n 0) (byt_zero n) _ ZB.out HG.out RX.out HX.out NXbb.out (by have := HXL.out; omega) (by show (0 : Int) ≠ 18446744073709551615; decide)).mono ?_
   rintro e V5 ⟨aU, nU, cU, U, rfl, HU, RU, Z', hb, hfU⟩
   replace HG : Hid (Gs V5) := ZB.out.gs HG.out hb
   replace ZA : Hid (Zs V5 ba true a x (c0 x (List.replicate n 0) (s11 [])) ⟨z9l, z9l, false⟩ false (1 : Nat)) := ZA.out.extb hb (by omega)
   replace RX : Hid (Rd V5 aX nX cX X) := RX.out.nq hb NXbb.out
   replace HB : Hid (Below w.heap.size w V5) := hb.below HB.out kbb
   replace ZB := Z'
   clear Z' hb
   clear hfU
   have hl : nU = n := by rw [← RU.out.hlen, HU.out, List.length_replicate]
   subst hl
   clear HX RX HU RU HXL HN3 NXba NXbb
   go_wp2
   go_ret
   exact ⟨rfl, HB.out⟩
end Go.Proofs.YtlnbjehimabaiaaGreatDoor
