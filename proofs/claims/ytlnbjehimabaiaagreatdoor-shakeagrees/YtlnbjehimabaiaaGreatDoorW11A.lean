/-
 ShakeAgrees' walk. No statement of the seat is proved here.
-/
import Derived.Test.YtlnbjehimabaiaaGreatDoorPk1
import Derived.Test.YtlnbjehimabaiaaGreatDoorPk46
import Derived.Test.YtlnbjehimabaiaaGreatDoorPk35
import Derived.Test.YtlnbjehimabaiaaGreatDoorPk16
import Derived.Test.YtlnbjehimabaiaaGreatDoorPk42
namespace Go.Proofs.YtlnbjehimabaiaaGreatDoor
open Go.RowKit
set_option maxRecDepth 8000

theorem few3_c (a : Option Addr) (len cap : Nat) (l : List Int) (w : World) (hr : Rd w a len cap l) (hm : len ≤ 140737488351232) :
  Calls Tryz.prog 18 #[.slice a len cap, .int .i64 3000] w fun e w' => ∃ a' m' c' X, e = .returned (.slice a' m' c') ∧ m' ≤ 3000 ∧ Hid (Rd w' a' m' c' X) ∧ Below w.heap.size w w' := by
 refine (few_any a len cap l 3000 w hr hm (by decide) (by decide)).mono ?_
 rintro e w' ⟨a', c', rfl, ho, hb⟩
 exact ⟨a', _, c', _, rfl, by rw [List.length_take]; exact Nat.min_le_left _ _, Rd.owns (hr.byt.take _) ho, hb⟩
set_option maxHeartbeats 4000000 in
theorem shakeAgrees_walk (sa : List Int) (ea : List Int) (sb : List Int) (eb : List Int) (a4 : Option Addr) (l4 c4 : Nat) (x4 : List Int) (a5 : Option Addr) (l5 c5 : Nat) (x5 : List Int) (a6 : Option Addr) (l6 c6 : Nat) (x6 : List Int) (a7 : Option Addr) (l7 c7 : Nat) (x7 : List Int) (hsa : Bn 32 sa) (hea : Bn 32 ea) (hsb : Bn 32 sb) (heb : Bn 32 eb) (hl4 : l4 ≤ 140737488351232) (hl5 : l5 ≤ 140737488351232) (hl6 : l6 ≤ 140737488351232) (hl7 : l7 ≤ 140737488351232) (w : World) (hr4 : Rd w a4 l4 c4 x4) (hr5 : Rd w a5 l5 c5 x5) (hr6 : Rd w a6 l6 c6 x6) (hr7 : Rd w a7 l7 c7 x7) (hg : Gs w) :
  Calls Tryz.prog 5 #[(.agg (List.map (Value.int .u8) sa).toArray), (.agg (List.map (Value.int .u8) ea).toArray), (.agg (List.map (Value.int .u8) sb).toArray), (.agg (List.map (Value.int .u8) eb).toArray), .slice a4 l4 c4, .slice a5 l5 c5, .slice a6 l6 c6, .slice a7 l7 c7] w fun e w' => e = .returned (.bool true) ∧ Below w.heap.size w w' := by
 have HG : Hid (Gs w) := hg
 have Hsan : Hid (Bn 32 sa) := hsa
 have Hean : Hid (Bn 32 ea) := hea
 have Hsbn : Hid (Bn 32 sb) := hsb
 have Hebn : Hid (Bn 32 eb) := heb
 have R4 : Hid (Rd w a4 l4 c4 x4) := hr4
 have R5 : Hid (Rd w a5 l5 c5 x5) := hr5
 have R6 : Hid (Rd w a6 l6 c6 x6) := hr6
 have R7 : Hid (Rd w a7 l7 c7 x7) := hr7
 clear hg hsa hea hsb heb hr4 hr5 hr6 hr7
 go_enter Tryz.func5, Tryz.ntmps5
 go_upto_region 1 with fail
 have hs1 : (w.alloc (.cells (List.map (Value.int .u8) sa).toArray 30)).heap.size = w.heap.size + 1 := by simp
 have hs2 : ((w.alloc (.cells (List.map (Value.int .u8) sa).toArray 30)).alloc (.cells (List.map (Value.int .u8) ea).toArray 30)).heap.size = w.heap.size + 1 + 1 := by simp
 have hs3 : (((w.alloc (.cells (List.map (Value.int .u8) sa).toArray 30)).alloc (.cells (List.map (Value.int .u8) ea).toArray 30)).alloc (.cells (List.map (Value.int .u8) sb).toArray 30)).heap.size = w.heap.size + 1 + 1 + 1 := by simp
 have A0 : Hid (Ar ((((w.alloc (.cells (List.map (Value.int .u8) sa).toArray 30)).alloc (.cells (List.map (Value.int .u8) ea).toArray 30)).alloc (.cells (List.map (Value.int .u8) sb).toArray 30)).alloc (.cells (List.map (Value.int .u8) eb).toArray 30)) w.heap.size 32 (List.map (Value.int .u8) sa)) := (((ar_box w _ 32 Hsan.out.map_len _).later (bel1 _ _)).later (bel1 _ _)).later (bel1 _ _)
 have A1 : Hid (Ar ((((w.alloc (.cells (List.map (Value.int .u8) sa).toArray 30)).alloc (.cells (List.map (Value.int .u8) ea).toArray 30)).alloc (.cells (List.map (Value.int .u8) sb).toArray 30)).alloc (.cells (List.map (Value.int .u8) eb).toArray 30)) (w.heap.size + 1) 32 (List.map (Value.int .u8) ea)) := by
  have h := ar_box (w.alloc (.cells (List.map (Value.int .u8) sa).toArray 30)) (List.map (Value.int .u8) ea) 32 Hean.out.map_len 30
  rw [hs1] at h
  exact ((((h).later (bel1 _ _))).later (bel1 _ _))
 have A2 : Hid (Ar ((((w.alloc (.cells (List.map (Value.int .u8) sa).toArray 30)).alloc (.cells (List.map (Value.int .u8) ea).toArray 30)).alloc (.cells (List.map (Value.int .u8) sb).toArray 30)).alloc (.cells (List.map (Value.int .u8) eb).toArray 30)) (w.heap.size + 1 + 1) 32 (List.map (Value.int .u8) sb)) := by
  have h := ar_box ((w.alloc (.cells (List.map (Value.int .u8) sa).toArray 30)).alloc (.cells (List.map (Value.int .u8) ea).toArray 30)) (List.map (Value.int .u8) sb) 32 Hsbn.out.map_len 30
  rw [hs2] at h
  exact ((h).later (bel1 _ _))
 have A3 : Hid (Ar ((((w.alloc (.cells (List.map (Value.int .u8) sa).toArray 30)).alloc (.cells (List.map (Value.int .u8) ea).toArray 30)).alloc (.cells (List.map (Value.int .u8) sb).toArray 30)).alloc (.cells (List.map (Value.int .u8) eb).toArray 30)) (w.heap.size + 1 + 1 + 1) 32 (List.map (Value.int .u8) eb)) := by
  have h := ar_box (((w.alloc (.cells (List.map (Value.int .u8) sa).toArray 30)).alloc (.cells (List.map (Value.int .u8) ea).toArray 30)).alloc (.cells (List.map (Value.int .u8) sb).toArray 30)) (List.map (Value.int .u8) eb) 32 Hebn.out.map_len 30
  rw [hs3] at h
  exact h
 have HB : Hid (Below w.heap.size w ((((w.alloc (.cells (List.map (Value.int .u8) sa).toArray 30)).alloc (.cells (List.map (Value.int .u8) ea).toArray 30)).alloc (.cells (List.map (Value.int .u8) sb).toArray 30)).alloc (.cells (List.map (Value.int .u8) eb).toArray 30))) := by
  have h1 := bel1 w (.cells (List.map (Value.int .u8) sa).toArray 30)
  have h2 := h1.trans ((bel1 (w.alloc (.cells (List.map (Value.int .u8) sa).toArray 30)) (.cells (List.map (Value.int .u8) ea).toArray 30)).mono h1.size)
  have h3 := h2.trans ((bel1 ((w.alloc (.cells (List.map (Value.int .u8) sa).toArray 30)).alloc (.cells (List.map (Value.int .u8) ea).toArray 30)) (.cells (List.map (Value.int .u8) sb).toArray 30)).mono h2.size)
  exact h3.trans ((bel1 (((w.alloc (.cells (List.map (Value.int .u8) sa).toArray 30)).alloc (.cells (List.map (Value.int .u8) ea).toArray 30)).alloc (.cells (List.map (Value.int .u8) sb).toArray 30)) (.cells (List.map (Value.int .u8) eb).toArray 30)).mono h3.size)
 obtain ⟨W0, hW0⟩ : ∃ W, W = ((((w.alloc (.cells (List.map (Value.int .u8) sa).toArray 30)).alloc (.cells (List.map (Value.int .u8) ea).toArray 30)).alloc (.cells (List.map (Value.int .u8) sb).toArray 30)).alloc (.cells (List.map (Value.int .u8) eb).toArray 30)) := ⟨_, rfl⟩
 obtain ⟨q3, hq3⟩ : ∃ q, q = w.heap.size + 1 + 1 + 1 := ⟨_, rfl⟩
 obtain ⟨q2, hq2⟩ : ∃ q, q = w.heap.size + 1 + 1 := ⟨_, rfl⟩
 obtain ⟨q1, hq1⟩ : ∃ q, q = w.heap.size + 1 := ⟨_, rfl⟩
 obtain ⟨q0, hq0⟩ : ∃ q, q = w.heap.size := ⟨_, rfl⟩
 rw [← hW0] at HB
 rw [← hW0, ← hq0] at A0
 rw [← hW0, ← hq1] at A1
 rw [← hW0, ← hq2] at A2
 rw [← hW0, ← hq3] at A3
 rw [← hW0, ← hq3, ← hq2, ← hq1, ← hq0]
 clear hs1 hs2 hs3 hW0 hq0 hq1 hq2 hq3
 obtain ⟨_, _, hisa⟩ := bn32_cells Hsan.out
 obtain ⟨_, _, hiea⟩ := bn32_cells Hean.out
 obtain ⟨_, _, hisb⟩ := bn32_cells Hsbn.out
 obtain ⟨_, _, hieb⟩ := bn32_cells Hebn.out
 replace HG := hidp (HG.out.later HB.out)
 replace R4 := hidp (R4.out.below HB.out)
 replace R5 := hidp (R5.out.below HB.out)
 replace R6 := hidp (R6.out.below HB.out)
 replace R7 := hidp (R7.out.below HB.out)
 go_wp2_with fail
 refine (few3_c a5 l5 c5 x5 _ R5.out (by omega)).mono ?_
 rintro e V1 ⟨b5, m5, d5, y5, rfl, hm5, T5, hb⟩
 clear R5
 replace HG := hidp (HG.out.later hb)
 replace A0 := hidp (A0.out.later hb)
 replace A1 := hidp (A1.out.later hb)
 replace A2 := hidp (A2.out.later hb)
 replace A3 := hidp (A3.out.later hb)
 replace R4 := hidp (R4.out.below hb)
 replace R6 := hidp (R6.out.below hb)
 replace R7 := hidp (R7.out.below hb)
 replace HB := hidp (HB.out.trans (hb.mono HB.out.size))
 clear hb
 go_wp2_with fail
 refine (few3_c a6 l6 c6 x6 _ R6.out (by omega)).mono ?_
 rintro e V2 ⟨b6, m6, d6, y6, rfl, hm6, T6, hb⟩
 clear R6
 replace HG := hidp (HG.out.later hb)
 replace A0 := hidp (A0.out.later hb)
 replace A1 := hidp (A1.out.later hb)
 replace A2 := hidp (A2.out.later hb)
 replace A3 := hidp (A3.out.later hb)
 replace R4 := hidp (R4.out.below hb)
 replace R7 := hidp (R7.out.below hb)
 replace T5 := hidp (T5.out.below hb)
 replace HB := hidp (HB.out.trans (hb.mono HB.out.size))
 clear hb
 go_wp2_with fail
 refine (few3_c a7 l7 c7 x7 _ R7.out (by omega)).mono ?_
 rintro e V3 ⟨b7, m7, d7, y7, rfl, hm7, T7, hb⟩
 clear R7
 replace HG := hidp (HG.out.later hb)
 replace A0 := hidp (A0.out.later hb)
 replace A1 := hidp (A1.out.later hb)
 replace A2 := hidp (A2.out.later hb)
 replace A3 := hidp (A3.out.later hb)
 replace R4 := hidp (R4.out.below hb)
 replace T5 := hidp (T5.out.below hb)
 replace T6 := hidp (T6.out.below hb)
 replace HB := hidp (HB.out.trans (hb.mono HB.out.size))
 clear hb
 go_wp2_with (first | (refine wpList_load_mid rfl 30 (.tmp 8) rfl q0 0 rfl (List.map (Value.int .u8) sa) _ A0.out.rng Tryz.underlying30 rfl hisa ?_) | (refine wpList_load_mid rfl 30 (.tmp 9) rfl q1 0 rfl (List.map (Value.int .u8) ea) _ A1.out.rng Tryz.underlying30 rfl hiea ?_))
 refine (new11_c true a4 l4 c4 x4 sa ea Hsan.out Hean.out _ R4.out HG.out (by omega)).mono ?_
 rintro e V4 ⟨ba, rfl, kba, ZA, hb⟩
 have N5ba : Hid (Nq ba b5 m5) := T5.out.nqNew kba
 have N6ba : Hid (Nq ba b6 m6) := T6.out.nqNew kba
 have N7ba : Hid (Nq ba b7 m7) := T7.out.nqNew kba
 have kq0ba : q0 < ba := Nat.lt_of_lt_of_le (A0.out.lt (by decide)) kba
 have kq1ba : q1 < ba := Nat.lt_of_lt_of_le (A1.out.lt (by decide)) kba
 have kq2ba : q2 < ba := Nat.lt_of_lt_of_le (A2.out.lt (by decide)) kba
 have kq3ba : q3 < ba := Nat.lt_of_lt_of_le (A3.out.lt (by decide)) kba
 replace kba : w.heap.size ≤ ba := Nat.le_trans HB.out.size kba
 replace HG := hidp (HG.out.later hb)
 replace A0 := hidp (A0.out.later hb)
 replace A1 := hidp (A1.out.later hb)
 replace A2 := hidp (A2.out.later hb)
 replace A3 := hidp (A3.out.later hb)
 replace R4 := hidp (R4.out.below hb)
 replace T5 := hidp (T5.out.below hb)
 replace T6 := hidp (T6.out.below hb)
 replace T7 := hidp (T7.out.below hb)
 replace HB := hidp (HB.out.trans (hb.mono HB.out.size))
 clear hb
 have kla := ZA.out.lt
 have qab : ∀ z, Below z.heap.size z z → True := fun _ _ => trivial
 clear qab
 go_wp2_with (first | (refine wpList_load_mid rfl 30 (.tmp 10) rfl q2 0 rfl (List.map (Value.int .u8) sb) _ A2.out.rng Tryz.underlying30 rfl hisb ?_) | (refine wpList_load_mid rfl 30 (.tmp 11) rfl q3 0 rfl (List.map (Value.int .u8) eb) _ A3.out.rng Tryz.underlying30 rfl hieb ?_))
 refine (new11_c false a4 l4 c4 x4 sb eb Hsbn.out Hebn.out _ R4.out HG.out (by omega)).mono ?_
 rintro e V5 ⟨bb, rfl, kbb, ZB, hb⟩
 have hab : ba < bb := by omega
 have N5bb : Hid (Nq bb b5 m5) := T5.out.nqNew kbb
 have N6bb : Hid (Nq bb b6 m6) := T6.out.nqNew kbb
 have N7bb : Hid (Nq bb b7 m7) := T7.out.nqNew kbb
 have kq0bb : q0 < bb := Nat.lt_of_lt_of_le (A0.out.lt (by decide)) kbb
 have kq1bb : q1 < bb := Nat.lt_of_lt_of_le (A1.out.lt (by decide)) kbb
 have kq2bb : q2 < bb := Nat.lt_of_lt_of_le (A2.out.lt (by decide)) kbb
 have kq3bb : q3 < bb := Nat.lt_of_lt_of_le (A3.out.lt (by decide)) kbb
 replace kbb : w.heap.size ≤ bb := Nat.le_trans HB.out.size kbb
 replace HG := hidp (HG.out.later hb)
 replace A0 := hidp (A0.out.later hb)
 replace A1 := hidp (A1.out.later hb)
 replace A2 := hidp (A2.out.later hb)
 replace A3 := hidp (A3.out.later hb)
 replace R4 := hidp (R4.out.below hb)
 replace T5 := hidp (T5.out.below hb)
 replace T6 := hidp (T6.out.below hb)
 replace T7 := hidp (T7.out.below hb)
 replace ZA := hidp (ZA.out.later hb)
 replace HB := hidp (HB.out.trans (hb.mono HB.out.size))
 clear hb
 clear R4
 have hqa : ∀ z : Nat, z = z := fun _ => rfl
 clear hqa
 obtain ⟨S0, hS0⟩ : ∃ z, z = s11 x4 := ⟨_, rfl⟩
 rw [← hS0] at ZA ZB
 have hS0h : S0.h = false := by rw [hS0]; rfl
 have hS0n : S0.n = 0 := by rw [hS0]; rfl
 clear hS0
 go_wp2_with fail
 refine (known11_any _ HG.out).mono ?_
 rintro e V6 ⟨rfl, hb⟩
 replace HG := hidp (HG.out.later hb)
 replace A0 := hidp (A0.out.later hb)
 replace A1 := hidp (A1.out.later hb)
 replace A2 := hidp (A2.out.later hb)
 replace A3 := hidp (A3.out.later hb)
 replace T5 := hidp (T5.out.below hb)
 replace T6 := hidp (T6.out.below hb)
 replace T7 := hidp (T7.out.below hb)
 replace ZA := hidp (ZA.out.later hb)
 replace ZB := hidp (ZB.out.later hb)
 replace HB := hidp (HB.out.trans (hb.mono HB.out.size))
 clear hb
 have klba : ba < V6.heap.size := ZA.out.lt
 have klbb : bb < V6.heap.size := ZB.out.lt
 go_wp2_with fail
 refine (w0_c ba sa ea S0 ⟨z9l, z9l, false⟩ b5 m5 d5 y5 _ ZA.out HG.out T5.out N5ba.out (by omega) (by rw [hS0n]; decide)).mono ?_
 rintro e V7 ⟨aX, nX, cX, X, rfl, HX, RX, Z', hb, hfX, hnX⟩
 have NXba : Hid (Nq ba aX nX) := hfX.nq klba
 clear klba
 have NXbb : Hid (Nq bb aX nX) := hfX.nq klbb
 clear klbb
 replace HG : Hid (Gs V7) := ZA.out.gs HG.out hb
 replace A0 : Hid (Ar V7 q0 32 (List.map (Value.int .u8) sa)) := A0.out.extb hb (by omega)
 replace A1 : Hid (Ar V7 q1 32 (List.map (Value.int .u8) ea)) := A1.out.extb hb (by omega)
 replace A2 : Hid (Ar V7 q2 32 (List.map (Value.int .u8) sb)) := A2.out.extb hb (by omega)
 replace A3 : Hid (Ar V7 q3 32 (List.map (Value.int .u8) eb)) := A3.out.extb hb (by omega)
 replace T5 : Hid (Rd V7 b5 m5 d5 y5) := T5.out.nq hb N5ba.out
 replace T6 : Hid (Rd V7 b6 m6 d6 y6) := T6.out.nq hb N6ba.out
 replace T7 : Hid (Rd V7 b7 m7 d7 y7) := T7.out.nq hb N7ba.out
 replace ZB : Hid (Zs V7 bb false sb eb S0 ⟨z9l, z9l, false⟩ false (0 : Nat)) := ZB.out.extb hb (by omega)
 replace HB : Hid (Below w.heap.size w V7) := hb.below HB.out kba
 replace ZA := Z'
 clear Z' hb
 clear hfX
 have klba : ba < V7.heap.size := ZA.out.lt
 have klbb : bb < V7.heap.size := ZB.out.lt
 go_wp2_with fail
 refine (r0_c bb sb eb ea S0 ⟨z9l, z9l, false⟩ aX nX cX X y5 T5.out.byt _ ZB.out HG.out RX.out HX.out NXbb.out (by omega) (by rw [hS0n]; decide)).mono ?_
 rintro e V8 ⟨aU0, nU0, cU0, U0, rfl, HU0, RU0, Z', hb, hfU0⟩
 have NU0ba : Hid (Nq ba aU0 nU0) := hfU0.nq klba
 clear klba
 have NU0bb : Hid (Nq bb aU0 nU0) := hfU0.nq klbb
 clear klbb
 replace HG : Hid (Gs V8) := ZB.out.gs HG.out hb
 replace A0 : Hid (Ar V8 q0 32 (List.map (Value.int .u8) sa)) := A0.out.extb hb (by omega)
 replace A1 : Hid (Ar V8 q1 32 (List.map (Value.int .u8) ea)) := A1.out.extb hb (by omega)
 replace A2 : Hid (Ar V8 q2 32 (List.map (Value.int .u8) sb)) := A2.out.extb hb (by omega)
 replace A3 : Hid (Ar V8 q3 32 (List.map (Value.int .u8) eb)) := A3.out.extb hb (by omega)
 replace T5 : Hid (Rd V8 b5 m5 d5 y5) := T5.out.nq hb N5bb.out
 replace T6 : Hid (Rd V8 b6 m6 d6 y6) := T6.out.nq hb N6bb.out
 replace T7 : Hid (Rd V8 b7 m7 d7 y7) := T7.out.nq hb N7bb.out
 replace ZA : Hid (Zs V8 ba true sa ea (c0 ea y5 S0) ⟨z9l, z9l, false⟩ false (1 : Nat)) := ZA.out.extb hb (by omega)
 replace RX : Hid (Rd V8 aX nX cX X) := RX.out.nq hb NXbb.out
 replace HB : Hid (Below w.heap.size w V8) := hb.below HB.out kbb
 replace ZB := Z'
 clear Z' hb
 clear hfU0
 clear RX
 clear HX hnX NXba NXbb
 obtain rfl : y5 = U0 := HU0.out.symm
 obtain ⟨S1, hS1⟩ : ∃ z, z = c0 ea y5 S0 := ⟨_, rfl⟩
 rw [← hS1] at ZA ZB
 clear hS1
 have klba : ba < V8.heap.size := ZA.out.lt
 have klbb : bb < V8.heap.size := ZB.out.lt
 go_wp2_with fail
 refine (w1_c bb sb eb ea Hean.out Hsbn.out Hebn.out S1 ⟨z9l, pb ea, false⟩ b6 m6 d6 y6 _ ZB.out rfl HG.out T6.out N6bb.out (by omega)).mono ?_
 rintro e V9 ⟨aY, nY, cY, Y, rfl, HY, RY, Z', hb, hfY, hnY⟩
 have NYba : Hid (Nq ba aY nY) := hfY.nq klba
 clear klba
 have NYbb : Hid (Nq bb aY nY) := hfY.nq klbb
 clear klbb
 replace HG : Hid (Gs V9) := ZB.out.gs HG.out hb
 replace A0 : Hid (Ar V9 q0 32 (List.map (Value.int .u8) sa)) := A0.out.extb hb (by omega)
 replace A1 : Hid (Ar V9 q1 32 (List.map (Value.int .u8) ea)) := A1.out.extb hb (by omega)
 replace A2 : Hid (Ar V9 q2 32 (List.map (Value.int .u8) sb)) := A2.out.extb hb (by omega)
 replace A3 : Hid (Ar V9 q3 32 (List.map (Value.int .u8) eb)) := A3.out.extb hb (by omega)
 replace T5 : Hid (Rd V9 b5 m5 d5 y5) := T5.out.nq hb N5bb.out
 replace T6 : Hid (Rd V9 b6 m6 d6 y6) := T6.out.nq hb N6bb.out
 replace T7 : Hid (Rd V9 b7 m7 d7 y7) := T7.out.nq hb N7bb.out
 replace ZA : Hid (Zs V9 ba true sa ea S1 ⟨z9l, z9l, false⟩ false (1 : Nat)) := ZA.out.extb hb (by omega)
 replace RU0 : Hid (Rd V9 aU0 nU0 cU0 y5) := RU0.out.nq hb NU0bb.out
 replace HB : Hid (Below w.heap.size w V9) := hb.below HB.out kbb
 replace ZB := Z'
 clear Z' hb
 clear hfY
 have klba : ba < V9.heap.size := ZA.out.lt
 have klbb : bb < V9.heap.size := ZB.out.lt
 go_wp2_with fail
 refine (r1_c ba sa ea sb eb Hean.out Hsbn.out Hebn.out S1 ⟨z9l, z9l, false⟩ aY nY cY Y y6 T6.out.byt _ ZA.out HG.out RY.out HY.out NYba.out (by omega)).mono ?_
 rintro e V10 ⟨aU1, nU1, cU1, U1, rfl, HU1, RU1, Z', hb, hfU1⟩
 have NU1ba : Hid (Nq ba aU1 nU1) := hfU1.nq klba
 clear klba
 have NU1bb : Hid (Nq bb aU1 nU1) := hfU1.nq klbb
 clear klbb
 replace HG : Hid (Gs V10) := ZA.out.gs HG.out hb
 replace A0 : Hid (Ar V10 q0 32 (List.map (Value.int .u8) sa)) := A0.out.extb hb (by omega)
 replace A1 : Hid (Ar V10 q1 32 (List.map (Value.int .u8) ea)) := A1.out.extb hb (by omega)
 replace A2 : Hid (Ar V10 q2 32 (List.map (Value.int .u8) sb)) := A2.out.extb hb (by omega)
 replace A3 : Hid (Ar V10 q3 32 (List.map (Value.int .u8) eb)) := A3.out.extb hb (by omega)
 replace T5 : Hid (Rd V10 b5 m5 d5 y5) := T5.out.nq hb N5ba.out
 replace T6 : Hid (Rd V10 b6 m6 d6 y6) := T6.out.nq hb N6ba.out
 replace T7 : Hid (Rd V10 b7 m7 d7 y7) := T7.out.nq hb N7ba.out
 replace ZB : Hid (Zs V10 bb false sb eb (c1 ea sb eb y6 S1) ⟨z9l, pb ea, false⟩ false (2 : Nat)) := ZB.out.extb hb (by omega)
 replace RU0 : Hid (Rd V10 aU0 nU0 cU0 y5) := RU0.out.nq hb NU0ba.out
 replace RY : Hid (Rd V10 aY nY cY Y) := RY.out.nq hb NYba.out
 replace HB : Hid (Below w.heap.size w V10) := hb.below HB.out kba
 replace ZA := Z'
 clear Z' hb
 clear hfU1
 clear RY
 clear HY hnY NYba NYbb
 obtain rfl : y6 = U1 := HU1.out.symm
 obtain ⟨S2, hS2⟩ : ∃ z, z = c1 ea sb eb y6 S1 := ⟨_, rfl⟩
 rw [← hS2] at ZA ZB
 have hn1 : S2.n = 1 := by rw [hS2]; exact c1_n _ _ _ _ _
 clear hS2
 have klba : ba < V10.heap.size := ZA.out.lt
 have klbb : bb < V10.heap.size := ZB.out.lt
 go_wp2_with fail
 refine (w2_c ba sa ea eb Hsan.out Hebn.out S2 ⟨pb sb, pb eb, true⟩ b7 m7 d7 y7 _ ZA.out rfl HG.out T7.out N7ba.out (by omega) (by rw [hn1]; decide)).mono ?_
 rintro e V11 ⟨aZ, nZ, cZ, Z, rfl, HZ, RZ, Z', hb, hfZ, hnZ⟩
 have NZba : Hid (Nq ba aZ nZ) := hfZ.nq klba
 clear klba
 have NZbb : Hid (Nq bb aZ nZ) := hfZ.nq klbb
 clear klbb
 replace HG : Hid (Gs V11) := ZA.out.gs HG.out hb
 replace A0 : Hid (Ar V11 q0 32 (List.map (Value.int .u8) sa)) := A0.out.extb hb (by omega)
 replace A1 : Hid (Ar V11 q1 32 (List.map (Value.int .u8) ea)) := A1.out.extb hb (by omega)
 replace A2 : Hid (Ar V11 q2 32 (List.map (Value.int .u8) sb)) := A2.out.extb hb (by omega)
 replace A3 : Hid (Ar V11 q3 32 (List.map (Value.int .u8) eb)) := A3.out.extb hb (by omega)
 replace T5 : Hid (Rd V11 b5 m5 d5 y5) := T5.out.nq hb N5ba.out
 replace T6 : Hid (Rd V11 b6 m6 d6 y6) := T6.out.nq hb N6ba.out
 replace T7 : Hid (Rd V11 b7 m7 d7 y7) := T7.out.nq hb N7ba.out
 replace ZB : Hid (Zs V11 bb false sb eb S2 ⟨z9l, pb ea, false⟩ false (2 : Nat)) := ZB.out.extb hb (by omega)
 replace RU0 : Hid (Rd V11 aU0 nU0 cU0 y5) := RU0.out.nq hb NU0ba.out
 replace RU1 : Hid (Rd V11 aU1 nU1 cU1 y6) := RU1.out.nq hb NU1ba.out
 replace HB : Hid (Below w.heap.size w V11) := hb.below HB.out kba
 replace ZA := Z'
 clear Z' hb
 clear hfZ
 have klba : ba < V11.heap.size := ZA.out.lt
 have klbb : bb < V11.heap.size := ZB.out.lt
 go_wp2_with fail
 refine (r2_c bb sb eb sa Hsan.out Hebn.out S2 ⟨z9l, pb ea, false⟩ aZ nZ cZ Z y7 T7.out.byt _ ZB.out HG.out RZ.out HZ.out NZbb.out (by omega) (by rw [hn1]; decide)).mono ?_
 rintro e V12 ⟨aU2, nU2, cU2, U2, rfl, HU2, RU2, Z', hb, hfU2⟩
 have NU2ba : Hid (Nq ba aU2 nU2) := hfU2.nq klba
 clear klba
 have NU2bb : Hid (Nq bb aU2 nU2) := hfU2.nq klbb
 clear klbb
 replace HG : Hid (Gs V12) := ZB.out.gs HG.out hb
 replace A0 : Hid (Ar V12 q0 32 (List.map (Value.int .u8) sa)) := A0.out.extb hb (by omega)
 replace A1 : Hid (Ar V12 q1 32 (List.map (Value.int .u8) ea)) := A1.out.extb hb (by omega)
 replace A2 : Hid (Ar V12 q2 32 (List.map (Value.int .u8) sb)) := A2.out.extb hb (by omega)
 replace A3 : Hid (Ar V12 q3 32 (List.map (Value.int .u8) eb)) := A3.out.extb hb (by omega)
 replace T5 : Hid (Rd V12 b5 m5 d5 y5) := T5.out.nq hb N5bb.out
 replace T6 : Hid (Rd V12 b6 m6 d6 y6) := T6.out.nq hb N6bb.out
 replace T7 : Hid (Rd V12 b7 m7 d7 y7) := T7.out.nq hb N7bb.out
 replace ZA : Hid (Zs V12 ba true sa ea (c2 sa eb y7 S2) ⟨pb sb, pb eb, true⟩ false (3 : Nat)) := ZA.out.extb hb (by omega)
 replace RU0 : Hid (Rd V12 aU0 nU0 cU0 y5) := RU0.out.nq hb NU0bb.out
 replace RU1 : Hid (Rd V12 aU1 nU1 cU1 y6) := RU1.out.nq hb NU1bb.out
 replace RZ : Hid (Rd V12 aZ nZ cZ Z) := RZ.out.nq hb NZbb.out
 replace HB : Hid (Below w.heap.size w V12) := hb.below HB.out kbb
 replace ZB := Z'
 clear Z' hb
 clear hfU2
 clear RZ
 clear HZ hnZ NZba NZbb hn1 hS0h hS0n
 obtain rfl : y7 = U2 := HU2.out.symm
 obtain ⟨S3, hS3⟩ : ∃ z, z = c2 sa eb y7 S2 := ⟨_, rfl⟩
 rw [← hS3] at ZA ZB
 clear hS3
 have s0 := str_of RU0.out
 have s1 := str_of T5.out
 have s2 := str_of RU1.out
 have s3 := str_of T6.out
 have s4 := str_of RU2.out
 have s5 := str_of T7.out
 go_wp2_with fail
 refine (done11_c ba true sa ea S3 ⟨pb sb, pb eb, true⟩ 3 (by decide) _ ZA.out).mono ?_
 rintro e V13 ⟨rfl, hw⟩
 rw [hw, show decide (3 = 3) = true from rfl]
 clear hw V13
 go_wp2_with fail
 refine (done11_c bb false sb eb S3 ⟨pb sa, pb ea, true⟩ 3 (by decide) _ ZB.out).mono ?_
 rintro e V14 ⟨rfl, hw⟩
 rw [hw, show decide (3 = 3) = true from rfl]
 clear hw V14 s0 s1 s2 s3 s4 s5
 clear RU0 RU1 RU2 T7
 clear NU0ba NU0bb NU1ba NU1bb NU2ba NU2bb N7ba N7bb HU0 HU1 HU2
 have hne : ∀ u, Sem.run Tryz.prog (binOp .neq 30 (.agg (List.map (Value.int .u8) S3.H).toArray) (.agg (List.map (Value.int .u8) S3.H).toArray)) u = .ok (.bool false) u := fun u => neq32 S3.H S3.H ZA.out.my.bh rfl u
 go_wp2_with fail
 refine (hash11_c ba true sa ea S3 ⟨pb sb, pb eb, true⟩ (3 : Nat) _ ZA.out).mono ?_
 rintro e V15 ⟨rfl, hb⟩
 replace HG := hidp (HG.out.later hb)
 replace A0 := hidp (A0.out.later hb)
 replace A1 := hidp (A1.out.later hb)
 replace A2 := hidp (A2.out.later hb)
 replace A3 := hidp (A3.out.later hb)
 replace T5 := hidp (T5.out.below hb)
 replace T6 := hidp (T6.out.below hb)
 replace ZA := hidp (ZA.out.later hb)
 replace ZB := hidp (ZB.out.later hb)
 replace HB := hidp (HB.out.trans (hb.mono HB.out.size))
 clear hb
 go_wp2_with fail
 refine (hash11_c bb false sb eb S3 ⟨pb sa, pb ea, true⟩ (3 : Nat) _ ZB.out).mono ?_
 rintro e V16 ⟨rfl, hb⟩
 replace HG := hidp (HG.out.later hb)
 replace A0 := hidp (A0.out.later hb)
 replace A1 := hidp (A1.out.later hb)
 replace A2 := hidp (A2.out.later hb)
 replace A3 := hidp (A3.out.later hb)
 replace T5 := hidp (T5.out.below hb)
 replace T6 := hidp (T6.out.below hb)
 replace ZA := hidp (ZA.out.later hb)
 replace ZB := hidp (ZB.out.later hb)
 replace HB := hidp (HB.out.trans (hb.mono HB.out.size))
 clear hb
 go_wp2_with fail
 refine (peer11_c ba true sa ea S3 ⟨pb sb, pb eb, true⟩ (3 : Nat) _ ZA.out).mono ?_
 rintro e V17 ⟨he0, hb⟩
 obtain ⟨Lp, hLp⟩ : ∃ z, z = pb sb := ⟨_, rfl⟩
 have HLp : Hid (Lp = pb sb) := hLp
 have HLpn : Hid (Bn 32 Lp) := by rw [hLp]; exact pb_bn _
 obtain rfl : e = .returned (.tuple #[(.agg (List.map (Value.int .u8) Lp).toArray), .bool true]) := by rw [hLp]; exact he0
 clear he0 hLp hne
 replace HG := hidp (HG.out.later hb)
 replace A0 := hidp (A0.out.later hb)
 replace A1 := hidp (A1.out.later hb)
 replace A2 := hidp (A2.out.later hb)
 replace A3 := hidp (A3.out.later hb)
 replace T5 := hidp (T5.out.below hb)
 replace T6 := hidp (T6.out.below hb)
 replace ZA := hidp (ZA.out.later hb)
 replace ZB := hidp (ZB.out.later hb)
 replace HB := hidp (HB.out.trans (hb.mono HB.out.size))
 clear hb
 obtain ⟨hlenbp, honebp, hibp⟩ := bn32_cells HLpn.out
 obtain ⟨csbp, hcs⟩ : ∃ cs, cs = (List.map (Value.int .u8) Lp) := ⟨_, rfl⟩
 rw [← hcs] at hlenbp honebp hibp ⊢
 have HCbp : Hid (csbp = (List.map (Value.int .u8) Lp)) := hcs
 clear hcs
 have hth := there_new V17 32 zb32 rfl 30
 have Abp : Hid (Ar ((V17.alloc (.cells zb32 30)).setCells V17.heap.size 0 csbp) V17.heap.size 32 (List.map (Value.int .u8) Lp)) := by rw [← HCbp.out]; exact ar_var _ _ 32 rfl _ _ hlenbp
 have hX : Below V17.heap.size V17 ((V17.alloc (.cells zb32 30)).setCells V17.heap.size 0 csbp) := bel_var _ _ _ _
 go_upto_region 17 with (refine wpList_store_mid rfl 30 (.tmp 31) (.tmp 158) rfl V17.heap.size 0 csbp.toArray rfl rfl (by simpa [hlenbp] using hth) (by simpa using hibp) (all_oneCell_toArray honebp) ?_)
 clear hth honebp hlenbp
 obtain ⟨W8, hnew⟩ : ∃ W, W = ((V17.alloc (.cells zb32 30)).setCells V17.heap.size 0 csbp) := ⟨_, rfl⟩
 obtain ⟨bp, hblk⟩ : ∃ q, q = V17.heap.size := ⟨_, rfl⟩
 rw [← hnew] at Abp hX ⊢
 rw [← hblk] at Abp ⊢
 rw [HCbp.out] at hibp
 clear hnew HCbp
 clear hblk
 replace HG := hidp (HG.out.later hX)
 replace A0 := hidp (A0.out.later hX)
 replace A1 := hidp (A1.out.later hX)
 replace A2 := hidp (A2.out.later hX)
 replace A3 := hidp (A3.out.later hX)
 replace T5 := hidp (T5.out.below hX)
 replace T6 := hidp (T6.out.below hX)
 replace ZA := hidp (ZA.out.later hX)
 replace ZB := hidp (ZB.out.later hX)
 replace HB := hidp (HB.out.trans (hX.mono HB.out.size))
 clear hX
 go_wp2_with fail
 refine (peer11_c bb false sb eb S3 ⟨pb sa, pb ea, true⟩ (3 : Nat) _ ZB.out).mono ?_
 rintro e V18 ⟨he0, hb⟩
 obtain ⟨Lq, hLq⟩ : ∃ z, z = pb sa := ⟨_, rfl⟩
 have HLq : Hid (Lq = pb sa) := hLq
 have HLqn : Hid (Bn 32 Lq) := by rw [hLq]; exact pb_bn _
 obtain rfl : e = .returned (.tuple #[(.agg (List.map (Value.int .u8) Lq).toArray), .bool true]) := by rw [hLq]; exact he0
 clear he0 hLq
 replace HG := hidp (HG.out.later hb)
 replace A0 := hidp (A0.out.later hb)
 replace A1 := hidp (A1.out.later hb)
 replace A2 := hidp (A2.out.later hb)
 replace A3 := hidp (A3.out.later hb)
 replace T5 := hidp (T5.out.below hb)
 replace T6 := hidp (T6.out.below hb)
 replace ZA := hidp (ZA.out.later hb)
 replace ZB := hidp (ZB.out.later hb)
 replace Abp := hidp (Abp.out.later hb)
 replace HB := hidp (HB.out.trans (hb.mono HB.out.size))
 clear hb
 obtain ⟨hlenbq, honebq, hibq⟩ := bn32_cells HLqn.out
 obtain ⟨csbq, hcs⟩ : ∃ cs, cs = (List.map (Value.int .u8) Lq) := ⟨_, rfl⟩
 rw [← hcs] at hlenbq honebq hibq ⊢
 have HCbq : Hid (csbq = (List.map (Value.int .u8) Lq)) := hcs
 clear hcs
 have hth := there_new V18 32 zb32 rfl 30
 have Abq : Hid (Ar ((V18.alloc (.cells zb32 30)).setCells V18.heap.size 0 csbq) V18.heap.size 32 (List.map (Value.int .u8) Lq)) := by rw [← HCbq.out]; exact ar_var _ _ 32 rfl _ _ hlenbq
 have hX : Below V18.heap.size V18 ((V18.alloc (.cells zb32 30)).setCells V18.heap.size 0 csbq) := bel_var _ _ _ _
 go_upto_region 18 with (refine wpList_store_mid rfl 30 (.tmp 33) (.tmp 163) rfl V18.heap.size 0 csbq.toArray rfl rfl (by simpa [hlenbq] using hth) (by simpa using hibq) (all_oneCell_toArray honebq) ?_)
 clear hth honebq hlenbq
 obtain ⟨W9, hnew⟩ : ∃ W, W = ((V18.alloc (.cells zb32 30)).setCells V18.heap.size 0 csbq) := ⟨_, rfl⟩
 obtain ⟨bq, hblk⟩ : ∃ q, q = V18.heap.size := ⟨_, rfl⟩
 rw [← hnew] at Abq hX ⊢
 rw [← hblk] at Abq ⊢
 rw [HCbq.out] at hibq
 clear hnew HCbq
 clear hblk
 replace HG := hidp (HG.out.later hX)
 replace A0 := hidp (A0.out.later hX)
 replace A1 := hidp (A1.out.later hX)
 replace A2 := hidp (A2.out.later hX)
 replace A3 := hidp (A3.out.later hX)
 replace T5 := hidp (T5.out.below hX)
 replace T6 := hidp (T6.out.below hX)
 replace ZA := hidp (ZA.out.later hX)
 replace ZB := hidp (ZB.out.later hX)
 replace Abp := hidp (Abp.out.later hX)
 replace HB := hidp (HB.out.trans (hX.mono HB.out.size))
 clear hX
 go_wp2_with fail
 refine (split11_c ba true sa ea S3 ⟨pb sb, pb eb, true⟩ _ ZA.out HG.out).mono ?_
 rintro e V19 ⟨ca, da, kA, kB, he0, HkA, HkB, Sca, Sda, kca, kda, kcada, hb⟩
 obtain rfl : e = .returned (.tuple #[.pointer (some ⟨ca, 0, none⟩), .pointer (some ⟨da, 0, none⟩), .bool true]) := he0
 have hcaw : w.heap.size ≤ ca := Nat.le_trans HB.out.size kca
 have hdaw : w.heap.size ≤ da := Nat.le_trans HB.out.size kda
 have N5ca : Hid (Nq ca b5 m5) := T5.out.nqNew kca
 have N5da : Hid (Nq da b5 m5) := T5.out.nqNew kda
 have N6ca : Hid (Nq ca b6 m6) := T6.out.nqNew kca
 have N6da : Hid (Nq da b6 m6) := T6.out.nqNew kda
 replace HG := hidp (HG.out.later hb)
 replace A0 := hidp (A0.out.later hb)
 replace A1 := hidp (A1.out.later hb)
 replace A2 := hidp (A2.out.later hb)
 replace A3 := hidp (A3.out.later hb)
 replace T5 := hidp (T5.out.below hb)
 replace T6 := hidp (T6.out.below hb)
 replace ZA := hidp (ZA.out.later hb)
 replace ZB := hidp (ZB.out.later hb)
 replace Abp := hidp (Abp.out.later hb)
 replace Abq := hidp (Abq.out.later hb)
 replace HB := hidp (HB.out.trans (hb.mono HB.out.size))
 clear hb
 have klc := Sca.out.lt
 have kld := Sda.out.lt
 go_wp2_with fail
 refine (split11_c bb false sb eb S3 ⟨pb sa, pb ea, true⟩ _ ZB.out HG.out).mono ?_
 rintro e V20 ⟨cb, db, kA2, kB2, he0, HkA2, HkB2, Scb, Sdb, kcb, kdb, kcbdb, hb⟩
 obtain rfl : e = .returned (.tuple #[.pointer (some ⟨db, 0, none⟩), .pointer (some ⟨cb, 0, none⟩), .bool true]) := he0
 have hcbw : w.heap.size ≤ cb := Nat.le_trans HB.out.size kcb
 have hdbw : w.heap.size ≤ db := Nat.le_trans HB.out.size kdb
 have N5cb : Hid (Nq cb b5 m5) := T5.out.nqNew kcb
 have N5db : Hid (Nq db b5 m5) := T5.out.nqNew kdb
 have N6cb : Hid (Nq cb b6 m6) := T6.out.nqNew kcb
 have N6db : Hid (Nq db b6 m6) := T6.out.nqNew kdb
 replace HG := hidp (HG.out.later hb)
 replace A0 := hidp (A0.out.later hb)
 replace A1 := hidp (A1.out.later hb)
 replace A2 := hidp (A2.out.later hb)
 replace A3 := hidp (A3.out.later hb)
 replace T5 := hidp (T5.out.below hb)
 replace T6 := hidp (T6.out.below hb)
 replace ZA := hidp (ZA.out.later hb)
 replace ZB := hidp (ZB.out.later hb)
 replace Abp := hidp (Abp.out.later hb)
 replace Abq := hidp (Abq.out.later hb)
 replace Sca := hidp (Sca.out.later hb)
 replace Sda := hidp (Sda.out.later hb)
 replace HB := hidp (HB.out.trans (hb.mono HB.out.size))
 clear hb
 obtain rfl : kA = kA2 := HkA.out.trans HkA2.out.symm
 obtain rfl : kB = kB2 := HkB.out.trans HkB2.out.symm
 clear HkA HkB HkA2 HkB2
 have kac : ca ≠ cb := by omega
 have kad : ca ≠ db := by omega
 have kdc : da ≠ cb := by omega
 have kdd : da ≠ db := by omega
 have kcaw : w.heap.size ≤ ca := hcaw
 have kdaw : w.heap.size ≤ da := hdaw
 have kcbw : w.heap.size ≤ cb := hcbw
 have kdbw : w.heap.size ≤ db := hdbw
 clear klc kld kca kda kcb kdb hcaw hdaw hcbw hdbw
 clear ZA ZB HG
 clear kq0ba kq0bb kq1ba kq1bb kq2ba kq2bb kq3ba kq3bb A1 A3 N5ba N5bb N6ba N6bb
 go_upto_region 20 with fail
 refine wp_region_noPanic ?_
 refine wp_region_held_drew (S := Ext V20) (by kernel_rfl) (Ext.refl _).drew (fun hH => ?_)
 change wpAnyH _ _ _ _ _ _ #[false, false, false, false, false, false, false, false, false, false, false, false, false, false, false, false, false, false] _ _
 refine tn 0 ?_
 refine tn 1 ?_
 refine tn 2 ?_
 refine tn 3 ?_
 refine tn 4 ?_
 refine tn 5 ?_
 refine tn 6 ?_
 refine tnl 7 (.agg (List.map (Value.int .u8) Lp).toArray) ?_ (hy := by exact yieldsIf_load_mid (by rfl) 30 (.tmp 31) rfl bp 0 rfl (List.map (Value.int .u8) Lp) _ (fun u hu => range_later hu Abp.out.rng) Tryz.underlying30 rfl hibp)
 refine tnl 8 (.agg (List.map (Value.int .u8) sb).toArray) ?_ (hy := by exact yieldsIf_load_mid (by rfl) 30 (.tmp 10) rfl q2 0 rfl (List.map (Value.int .u8) sb) _ (fun u hu => range_later hu A2.out.rng) Tryz.underlying30 rfl hisb)
 refine rdy 9 (fun K hK => ?_)
 go_simp
 refine (public_p sb Hsbn.out _).mono ?_
 rintro e Y9 ⟨X5, rfl, HX5, -, hb⟩
 refine ko hK (hH.trans hb) fun hH => ?_; clear hK K
 clear hb
 have hLX : Lp = X5 := by rw [HLp.out, HX5.out]
 have hne : ∀ u, Sem.run Tryz.prog (binOp .neq 30 (.agg (List.map (Value.int .u8) Lp).toArray) (.agg (List.map (Value.int .u8) X5).toArray)) u = .ok (.bool false) u := fun u => neq32 Lp X5 HLpn.out hLX u
 clear hLX
 refine tn 10 ?_
 clear hne
 refine tn 11 ?_
 refine tn 12 ?_
 refine tnl 13 (.agg (List.map (Value.int .u8) Lq).toArray) ?_ (hy := by exact yieldsIf_load_mid (by rfl) 30 (.tmp 33) rfl bq 0 rfl (List.map (Value.int .u8) Lq) _ (fun u hu => range_later hu Abq.out.rng) Tryz.underlying30 rfl hibq)
 refine tnl 14 (.agg (List.map (Value.int .u8) sa).toArray) ?_ (hy := by exact yieldsIf_load_mid (by rfl) 30 (.tmp 8) rfl q0 0 rfl (List.map (Value.int .u8) sa) _ (fun u hu => range_later hu A0.out.rng) Tryz.underlying30 rfl hisa)
 refine rdy 15 (fun K hK => ?_)
 go_simp
 refine (public_p sa Hsan.out _).mono ?_
 rintro e Y15 ⟨X6, rfl, HX6, -, hb⟩
 refine ko hK (hH.trans hb) fun hH => ?_; clear hK K
 clear hb
 have hLX : Lq = X6 := by rw [HLq.out, HX6.out]
 have hne : ∀ u, Sem.run Tryz.prog (binOp .neq 30 (.agg (List.map (Value.int .u8) Lq).toArray) (.agg (List.map (Value.int .u8) X6).toArray)) u = .ok (.bool false) u := fun u => neq32 Lq X6 HLqn.out hLX u
 clear hLX
 refine tn 16 ?_
 clear hne
 refine tn 17 ?_
 refine wpAnyH_done (by kernel_rfl) ?_ _
 refine NoPanic.normal ?_
 have hb : Below V20.heap.size V20 _ := hH
 clear hH
 clear A0 A2 Abp Abq hibp hibq hisa hisb hiea hieb HLp HLq HLpn HLqn HX5 HX6
 replace T5 := hidp (T5.out.below hb)
 replace T6 := hidp (T6.out.below hb)
 replace Sca := hidp (Sca.out.later hb)
 replace Sda := hidp (Sda.out.later hb)
 replace Scb := hidp (Scb.out.later hb)
 replace Sdb := hidp (Sdb.out.later hb)
 replace HB := hidp (HB.out.trans (hb.mono HB.out.size))
 clear hb
 have klcb := Scb.out.lt
 have kldb := Sdb.out.lt
 have klda := Sda.out.lt
 go_wp2_with fail
 refine (seal9o_c ca 0 kA true 0 none 0 0 [] b5 m5 d5 y5 _ Sca.out.sy (Rd.nil _ _ _ (fun _ => rfl)) T5.out (by decide) (by omega)).mono ?_
 rintro e V21 ⟨aK5, mK5, cK5, K5, E, n', rfl, hmK5, HK5, HE, -, RK5, -, hx, hfr⟩
 obtain rfl : 0 = E := by rw [HE.out]; decide
 have hb := hx.ext
 have NK5cb : Hid (Nq cb aK5 mK5) := hfr.nq klcb
 have NK5db : Hid (Nq db aK5 mK5) := hfr.nq kldb
 have NK5da : Hid (Nq da aK5 mK5) := hfr.nq klda
 clear hx hfr HE klcb kldb klda
 replace T5 : Hid (Rd V21 b5 m5 d5 y5) := T5.out.nq hb N5ca.out
 replace T6 : Hid (Rd V21 b6 m6 d6 y6) := T6.out.nq hb N6ca.out
 replace Sda : Hid (Sx V21 da kB true 0) := Sda.out.extb hb (by omega)
 replace Scb : Hid (Sx V21 cb kA true 0) := Scb.out.extb hb (by omega)
 replace Sdb : Hid (Sx V21 db kB true 0) := Sdb.out.extb hb (by omega)
 replace HB : Hid (Below w.heap.size w V21) := hb.below HB.out kcaw
 clear Sca hb
 have kldb := Sdb.out.lt
 have klda := Sda.out.lt
 go_wp2_with fail
 refine (open9o_c cb 0 kA true 0 none 0 0 [] aK5 mK5 cK5 K5 _ Scb.out.sy (Rd.nil _ _ _ (fun _ => rfl)) RK5.out (by decide) (by omega)).mono ?_
 rintro e V22 ⟨aO5, mO5, cO5, O5, E, n', rfl, HO, HE, -, RO5, -, hx, -, hfr⟩
 obtain rfl : 0 = E := by rw [HE.out, HK5.out]; exact (oe9_back _ _ _ _ (by decide)).symm
 obtain rfl : y5 = O5 := by rw [HO.out, HK5.out]; exact (ox9_back _ _ _ (by decide) T5.out.byt).symm
 have hb := hx.ext
 have NO5db : Hid (Nq db aO5 mO5) := hfr.nq kldb
 have NO5da : Hid (Nq da aO5 mO5) := hfr.nq klda
 clear hx hfr HE HO kldb klda
 replace T5 : Hid (Rd V22 b5 m5 d5 y5) := T5.out.nq hb N5cb.out
 replace T6 : Hid (Rd V22 b6 m6 d6 y6) := T6.out.nq hb N6cb.out
 replace Sda : Hid (Sx V22 da kB true 0) := Sda.out.extb hb (by omega)
 replace Sdb : Hid (Sx V22 db kB true 0) := Sdb.out.extb hb (by omega)
 replace HB : Hid (Below w.heap.size w V22) := hb.below HB.out kcbw
 clear Scb hb RK5 HK5
 have klda := Sda.out.lt
 go_wp2_with fail
 refine (seal9o_c db 0 kB true 0 none 0 0 [] b6 m6 d6 y6 _ Sdb.out.sy (Rd.nil _ _ _ (fun _ => rfl)) T6.out (by decide) (by omega)).mono ?_
 rintro e V23 ⟨aK6, mK6, cK6, K6, E, n', rfl, hmK6, HK6, HE, -, RK6, -, hx, hfr⟩
 obtain rfl : 0 = E := by rw [HE.out]; decide
 have hb := hx.ext
 have NK6da : Hid (Nq da aK6 mK6) := hfr.nq klda
 clear hx hfr HE klda
 replace T5 : Hid (Rd V23 b5 m5 d5 y5) := T5.out.nq hb N5db.out
 replace T6 : Hid (Rd V23 b6 m6 d6 y6) := T6.out.nq hb N6db.out
 replace Sda : Hid (Sx V23 da kB true 0) := Sda.out.extb hb (by omega)
 replace RO5 : Hid (Rd V23 aO5 mO5 cO5 y5) := RO5.out.nq hb NO5db.out
 replace HB : Hid (Below w.heap.size w V23) := hb.below HB.out kdbw
 clear Sdb hb
 go_wp2_with fail
 refine (open9o_c da 0 kB true 0 none 0 0 [] aK6 mK6 cK6 K6 _ Sda.out.sy (Rd.nil _ _ _ (fun _ => rfl)) RK6.out (by decide) (by omega)).mono ?_
 rintro e V24 ⟨aO6, mO6, cO6, O6, E, n', rfl, HO, HE, -, RO6, -, hx, -, hfr⟩
 obtain rfl : 0 = E := by rw [HE.out, HK6.out]; exact (oe9_back _ _ _ _ (by decide)).symm
 obtain rfl : y6 = O6 := by rw [HO.out, HK6.out]; exact (ox9_back _ _ _ (by decide) T6.out.byt).symm
 have hb := hx.ext
 clear hx hfr HE HO
 replace T5 : Hid (Rd V24 b5 m5 d5 y5) := T5.out.nq hb N5da.out
 replace T6 : Hid (Rd V24 b6 m6 d6 y6) := T6.out.nq hb N6da.out
 replace RO5 : Hid (Rd V24 aO5 mO5 cO5 y5) := RO5.out.nq hb NO5da.out
 replace HB : Hid (Below w.heap.size w V24) := hb.below HB.out kdaw
 clear Sda hb RK6 HK6
 have s0 := str_of RO5.out
 have s1 := str_of T5.out
 have s2 := str_of RO6.out
 have s3 := str_of T6.out
 go_wp2
 go_ret
 exact ⟨rfl, HB.out⟩
end Go.Proofs.YtlnbjehimabaiaaGreatDoor
