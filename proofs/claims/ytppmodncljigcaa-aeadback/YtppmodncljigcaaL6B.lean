/-
  AeadBack's walk. No statement of the seat is proved here.
-/
import Derived.Test.YtppmodncljigcaaA6K
namespace Go.Proofs.Ytppmodncljigcaa
open Go.RowKit

set_option maxRecDepth 8000 in
set_option maxHeartbeats 4000000 in
theorem aeadBack_walk (key nonce : List Int) (aa : Option Addr) (la ca : Nat) (ad : List Int) (at' : Option Addr) (lt ct : Nat) (text : List Int) (lg : Int) (hk : Bn 32 key) (hn : Bn 12 nonce) (ha : la ≤ 140737488351232) (hm : lt ≤ 140737488351232) (hi : -9223372036854775808 ≤ lg ∧ lg ≤ 9223372036854775807) (w : World) (hra : Rd w aa la ca ad) (hrt : Rd w at' lt ct text) :
    Calls Try.prog 4 #[(.agg (List.map (Value.int .u8) key).toArray), (.agg (List.map (Value.int .u8) nonce).toArray), .slice aa la ca, .slice at' lt ct, .int .i64 lg] w fun e w' => e = .returned (.bool true) ∧ Below w.heap.size w w' := by
  have HRA : Hid (Rd w aa la ca ad) := hra
  have HRT : Hid (Rd w at' lt ct text) := hrt
  clear hra hrt
  have HK : Hid (Bn 32 key) := hk
  have HN : Hid (Bn 12 nonce) := hn
  clear hk hn
  obtain ⟨_, _, hiK⟩ := bn32_cells HK.out
  obtain ⟨_, _, hiN⟩ := bn12_cells HN.out
  go_enter Try.func4, Try.ntmps4
  go_upto_region 1 with fail
  have AK : Hid (Ar ((w.alloc (.cells (List.map (Value.int .u8) key).toArray 22)).alloc (.cells (List.map (Value.int .u8) nonce).toArray 25)) w.heap.size 32 (List.map (Value.int .u8) key)) := (ar_box w _ 32 HK.out.map_len _).later (bel1 _ _)
  have AN : Hid (Ar ((w.alloc (.cells (List.map (Value.int .u8) key).toArray 22)).alloc (.cells (List.map (Value.int .u8) nonce).toArray 25)) (w.heap.size + 1) 12 (List.map (Value.int .u8) nonce)) := by have := (ar_box (w.alloc (.cells (List.map (Value.int .u8) key).toArray 22)) _ 12 HN.out.map_len 25); simpa [Hid] using this
  have HB : Hid (Below w.heap.size w ((w.alloc (.cells (List.map (Value.int .u8) key).toArray 22)).alloc (.cells (List.map (Value.int .u8) nonce).toArray 25))) := bel2 _ _ _
  generalize ((w.alloc (.cells (List.map (Value.int .u8) key).toArray 22)).alloc (.cells (List.map (Value.int .u8) nonce).toArray 25)) = W0 at *
  have k1 : w.heap.size < w.heap.size + 1 := by omega
  generalize hq1 : w.heap.size + 1 = q1 at *
  replace HRA : Hid (Rd W0 aa la ca ad) := HRA.out.below HB.out
  replace HRT : Hid (Rd W0 at' lt ct text) := HRT.out.below HB.out
  go_upto_if 16 with fail
  go_cut [3] from 15 (fun v wx => ∃ (a' : Option Addr) (len' cap' : Nat) (l' : List Int), v = .slice a' len' cap' ∧ Hid (Rd wx a' len' cap' l') ∧ len' ≤ 140737488351232 ∧ Hid (Ext W0 wx))
  case first =>
    by_cases h3 : lg.tmod 4 = 0
    · go_wp2_with fail
      refine (pick_any lg 500 hi (by decide) _).mono ?_
      rintro e w' ⟨m, rfl, p0, p1, hw⟩
      rw [hw]
      clear hw w'
      obtain ⟨m, rfl⟩ := Int.eq_ofNat_of_zero_le p0
      go_wp2_with fail
      refine (bytes_c m lg (by omega) _).mono ?_
      rintro e V1 ⟨g1, t, rfl, HT0, HT1, hb⟩
      go_wp2_with fail
      go_meet
      exact ⟨_, m, m, t, rfl, Rd.owns HT0.out HT1.out, by omega, hb⟩
    · go_wp2_with fail
      go_meet
      exact ⟨at', lt, ct, text, rfl, HRT, hm, Ext.refl _⟩
  case rest =>
    obtain ⟨a', len', cap', l', rfl, HR2, hm', HE⟩ := hcut
    have hb := HE.out
    have HRT := HR2
    clear HR2 HE hm
    generalize wc = W1 at *
    replace AK : Hid (Ar W1 w.heap.size 32 (List.map (Value.int .u8) key)) := AK.out.later hb
    replace AN : Hid (Ar W1 q1 12 (List.map (Value.int .u8) nonce)) := AN.out.later hb
    replace HRA : Hid (Rd W1 aa la ca ad) := HRA.out.below hb
    replace HB : Hid (Below w.heap.size w W1) := HB.out.trans (hb.mono HB.out.size)
    clear hb
    have HLT : Hid (l'.length = len') := HRT.out.hlen
    have HBT : Hid (Byt l') := HRT.out.byt
    go_wp2_with (first
  | (refine wpList_load_mid rfl 22 (.tmp 5) rfl w.heap.size 0 rfl (List.map (Value.int .u8) key) _ AK.out.rng Try.underlying22 rfl hiK ?_)
  | (refine wpList_load_mid rfl 25 (.tmp 6) rfl q1 0 rfl (List.map (Value.int .u8) nonce) _ AN.out.rng Try.underlying25 rfl hiN ?_))
    refine (seal_c key nonce aa la ca ad a' len' cap' l' HK.out HN.out _ HRA.out HRT.out ha hm').mono ?_
    rintro e V ⟨gB, mB, XB, rfl, HmB, HXB, OB, -, hb⟩
    replace AK : Hid (Ar V w.heap.size 32 (List.map (Value.int .u8) key)) := AK.out.later hb
    replace AN : Hid (Ar V q1 12 (List.map (Value.int .u8) nonce)) := AN.out.later hb
    replace HRA : Hid (Rd V aa la ca ad) := HRA.out.below hb
    replace HRT : Hid (Rd V a' len' cap' l') := HRT.out.below hb
    replace HB : Hid (Below w.heap.size w V) := HB.out.trans (hb.mono HB.out.size)
    clear hb
    have hmb : mB ≤ 140737488351248 := by rw [HmB.out]; omega
    go_wp2_with (first
  | (refine wpList_load_mid rfl 22 (.tmp 5) rfl w.heap.size 0 rfl (List.map (Value.int .u8) key) _ AK.out.rng Try.underlying22 rfl hiK ?_)
  | (refine wpList_load_mid rfl 25 (.tmp 6) rfl q1 0 rfl (List.map (Value.int .u8) nonce) _ AN.out.rng Try.underlying25 rfl hiN ?_))
    refine (open_c key nonce aa la ca ad (some ⟨gB, 0, none⟩) mB mB XB HK.out HN.out _ HRA.out OB.out.rd ha hmb).mono ?_
    rintro e V1 ⟨aT, mT, cT, XT, ET, rfl, HET, HXT, RT, hb⟩
    have hET : ET = 0 := by rw [HET.out, HXB.out, er6_back]
    have hXT : XT = l' := by rw [HXT.out, HXB.out, op6_back _ _ _ HBT.out]
    subst hET hXT
    replace HRT : Hid (Rd V1 a' len' cap' XT) := HRT.out.below hb
    replace HB : Hid (Below w.heap.size w V1) := HB.out.trans (hb.mono HB.out.size)
    clear hb
    clear AK AN HRA hiK hiN HET HXT HXB OB
    go_wp2_with fail
    refine (known6_any _).mono ?_
    rintro e V2 ⟨rfl, hb⟩
    replace RT : Hid (Rd V2 aT mT cT XT) := RT.out.below hb
    replace HRT : Hid (Rd V2 a' len' cap' XT) := HRT.out.below hb
    replace HB : Hid (Below w.heap.size w V2) := HB.out.trans (hb.mono HB.out.size)
    clear hb
    have sx1 := str_of RT.out
    have sx2 := str_of HRT.out
    have hwl : (len' : Int) + 16 = (mB : Int) := by rw [HmB.out]; omega
    clear RT HRT HmB HLT HBT
    go_wp2
    go_ret
    exact ⟨rfl, HB.out⟩
end Go.Proofs.Ytppmodncljigcaa
