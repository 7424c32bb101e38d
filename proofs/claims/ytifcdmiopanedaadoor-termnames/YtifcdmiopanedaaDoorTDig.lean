/-
  What portholeref12's below and digits do: a number's decimals. No statement of the seat is proved here.
-/
import Derived.Test.YtifcdmiopanedaaDoorKStr
import Derived.Test.YtifcdmiopanedaaDoorKRow
import Derived.Test.YtifcdmiopanedaaDoorTName
import Derived.Lib.ItoaLen
namespace Go.Proofs.YtifcdmiopanedaaDoor
open Go.RowKit

theorem one_digit (x : Int) (u : Nat) (hx : x = 48 + u) (hu : u < 10) : strOfNums [x] = ⟨[UInt8.ofNat (48 + u)].toArray⟩ := by
  subst hx
  have e : ((48 : Int) + u).toNat = 48 + u := by omega
  simp [strOfNums, e]
theorem rd_one8 (w : World) (x : Int) (h0 : 0 ≤ x ∧ x ≤ 255) : Rd (w.alloc (.cells #[.int .u8 x] 5)) (some ⟨w.heap.size, 0, none⟩) 1 1 [x] :=
  Rd.laid w [x] (Byt.cons h0.1 h0.2 Byt.nil) 5 1 (Nat.le_refl _) #[.int .u8 x] (fun i hi => by match i, hi with | 0, _ => rfl)
set_option maxRecDepth 8000 in
set_option maxHeartbeats 2000000 in
theorem below_small (m : Int) (u : Nat) (h : m = -(u : Int)) (hu : u < 10) (w : World) :
    Calls Tryd.prog 31 #[.int .i64 m] w fun e w' => e = .returned (.string ⟨(Lib.decDigits u).toArray⟩) ∧ Below w.heap.size w w' := by
  have q1 : m > -10 := by omega
  have q2 : m ≤ 0 := by omega
  have HS : Hid (strOfNums [48 - m] = ⟨(Lib.decDigits u).toArray⟩) := by unfold Hid; rw [one_digit (48 - m) u (by omega) hu, Lib.decDigits_one hu]
  clear h
  have s1 := str_of (rd_one8 w (48 - m) ⟨by omega, by omega⟩)
  rw [HS.out] at s1
  go_enter Tryd.func31, Tryd.ntmps31
  go_wp2
  go_ret
  exact ⟨rfl, bel1 _ _⟩
/-- A text with one sign behind it. -/
theorem text_snoc (l : List UInt8) (x : Int) (c : UInt8) (h : UInt8.ofNat x.toNat = c) : (⟨l.toArray⟩ : ByteArray) ++ strOfNums [x] = ⟨(l ++ [c]).toArray⟩ := by
  subst h
  apply ByteArray.ext
  simp [strOfNums]
theorem dec_small {u : Nat} (h : u ≤ 9223372036854775808) : (⟨(Lib.decDigits (u / 10)).toArray⟩ : ByteArray).size + [48 - (0 : Int)].length ≤ 9223372036854775807 := by
  have h1 : (⟨(Lib.decDigits (u / 10)).toArray⟩ : ByteArray).size = Lib.nDigits (u / 10) := by
    show (Lib.decDigits (u / 10)).toArray.size = _
    rw [List.size_toArray, Lib.decDigits_length]
  have h2 : Lib.nDigits (u / 10) ≤ 100 := by
    have := Lib.nDigits_le20 (u / 10) (by omega)
    omega
  rw [h1]
  simp
  omega
set_option maxRecDepth 8000 in
set_option maxHeartbeats 4000000 in
theorem below_c : ∀ (u : Nat), u ≤ 9223372036854775808 → ∀ (m : Int), m = -(u : Int) → ∀ (w : World),
    Calls Tryd.prog 31 #[.int .i64 m] w fun e w' => e = .returned (.string ⟨(Lib.decDigits u).toArray⟩) ∧ Below w.heap.size w w' := by
  intro u
  induction u using Nat.strongRecOn with
  | _ u ih =>
    intro hb0 m h w
    by_cases hu : u < 10
    · exact below_small m u h hu w
    · have q1 : ¬ m > -10 := by omega
      obtain ⟨d, hd⟩ : ∃ d, d = m.tdiv 10 := ⟨_, rfl⟩
      obtain ⟨r, hr⟩ : ∃ r, r = m.tmod 10 := ⟨_, rfl⟩
      have HD : Hid (d = -((u / 10 : Nat) : Int)) := by unfold Hid; rw [hd, h, Int.neg_tdiv]; norm_cast
      have HR : r = -((u % 10 : Nat) : Int) := by rw [hr, h, Int.neg_tmod]; norm_cast
      have r0 : -9 ≤ r := by omega
      have r1 : r ≤ 0 := by omega
      have HC : Hid (UInt8.ofNat (48 - r).toNat = UInt8.ofNat (48 + u % 10)) := by unfold Hid; rw [show (48 - r).toNat = 48 + u % 10 by omega]
      have HU : Hid (Lib.decDigits (u / 10) ++ [UInt8.ofNat (48 + u % 10)] = Lib.decDigits u) := by unfold Hid; rw [Lib.decDigits.eq_def u, dif_neg hu]
      have hd' := hd.symm
      have hr' := hr.symm
      have d0 := HD.out
      have d1 : -922337203685477581 ≤ d := by omega
      have d2 : d ≤ 0 := by omega
      have m1 : -9223372036854775808 ≤ m := by omega
      have hwd : IntKind.i64.wrap d = d := by rw [IntKind.wrap_i64]; omega
      have hw1 : IntKind.i64.wrap (48 - r) = 48 - r := by rw [IntKind.wrap_i64]; omega
      have hw2 : IntKind.u8.wrap (48 - r) = 48 - r := by rw [IntKind.wrap_u8]; omega
      clear hd hr h HR d0
      go_enter Tryd.func31, Tryd.ntmps31
      go_upto_region 3 with fail
      refine wp_region_noPanic ?_
      refine wp_region_held_drew (S := Ext w) (by kernel_rfl) (Ext.refl _).drew (fun hH => ?_)
      change wpAnyH _ _ _ _ _ _ #[false, false, false, false, false, false, false, false, false, false, false] _ _
      refine wpAnyH_take (i := 0) (oi := ?o0f) (v := ?v0f) ?h0f (by kernel_rfl) ?f0f ?r0f (fun _ _ _ h => h) (Or.inl ⟨?w0f, ?y0f⟩) (by assumption) ?t0f
      case h0f => simp only [List.getElem?_toArray]; rfl
      case f0f => kernel_rfl
      case r0f => kernel_rfl
      case w0f => rfl
      case y0f => (intro u hu; (go_simp) <;> with_reducible rfl)
      try simp only [Act.put, List.setIfInBounds_toArray, List.set_cons_zero, List.set_cons_succ]
      refine wpAnyH_take (i := 1) (oi := ?o1f) (v := ?v1f) ?h1f (by kernel_rfl) ?f1f ?r1f (fun _ _ _ h => h) (Or.inl ⟨?w1f, ?y1f⟩) (by assumption) ?t1f
      case h1f => simp only [List.getElem?_toArray]; rfl
      case f1f => kernel_rfl
      case r1f => kernel_rfl
      case w1f => rfl
      case y1f => (intro u hu; (go_simp) <;> with_reducible rfl)
      try simp only [Act.put, List.setIfInBounds_toArray, List.set_cons_zero, List.set_cons_succ]
      refine wpAnyH_take (i := 3) (oi := ?o3f) (v := ?v3f) ?h3f (by kernel_rfl) ?f3f ?r3f (fun _ _ _ h => h) (Or.inl ⟨?w3f, ?y3f⟩) (by assumption) ?t3f
      case h3f => simp only [List.getElem?_toArray]; rfl
      case f3f => kernel_rfl
      case r3f => kernel_rfl
      case w3f => rfl
      case y3f => (intro u hu; (go_simp) <;> with_reducible rfl)
      try simp only [Act.put, List.setIfInBounds_toArray, List.set_cons_zero, List.set_cons_succ]
      refine wpAnyH_take (i := 4) (oi := ?o4f) (v := ?v4f) ?h4f (by kernel_rfl) ?f4f ?r4f (fun _ _ _ h => h) (Or.inl ⟨?w4f, ?y4f⟩) (by assumption) ?t4f
      case h4f => simp only [List.getElem?_toArray]; rfl
      case f4f => kernel_rfl
      case r4f => kernel_rfl
      case w4f => rfl
      case y4f => (intro u hu; (go_simp) <;> with_reducible rfl)
      try simp only [Act.put, List.setIfInBounds_toArray, List.set_cons_zero, List.set_cons_succ]
      refine wpAnyH_take (i := 5) (oi := ?o5f) (v := ?v5f) ?h5f (by kernel_rfl) ?f5f ?r5f (fun _ _ _ h => h) (Or.inl ⟨?w5f, ?y5f⟩) (by assumption) ?t5f
      case h5f => simp only [List.getElem?_toArray]; rfl
      case f5f => kernel_rfl
      case r5f => kernel_rfl
      case w5f => rfl
      case y5f => (intro u hu; (go_simp) <;> with_reducible rfl)
      try simp only [Act.put, List.setIfInBounds_toArray, List.set_cons_zero, List.set_cons_succ]
      refine wpAnyH_take (i := 6) (oi := ?o6f) (v := ?v6f) ?h6f (by kernel_rfl) ?f6f ?r6f (fun _ _ _ h => h) (Or.inl ⟨?w6f, ?y6f⟩) (by assumption) ?t6f
      case h6f => simp only [List.getElem?_toArray]; rfl
      case f6f => kernel_rfl
      case r6f => kernel_rfl
      case w6f => rfl
      case y6f => (intro u hu; (go_simp) <;> with_reducible rfl)
      try simp only [Act.put, List.setIfInBounds_toArray, List.set_cons_zero, List.set_cons_succ]
      obtain ⟨y0, hy0⟩ : ∃ V, V = w.drew := ⟨_, rfl⟩
      rw [← hy0] at hH ⊢
      clear hy0
      refine wpAnyH_ready (rs := [2, 7]) (by kernel_rfl) (by simp) ?_
      refine AllReadyH.cons (o := ?oat) ?hat (fun K hK => ?sat) (AllReadyH.cons (o := ?obt) ?hbt (fun K hK => ?sbt) AllReadyH.nil)
      case hat => simp only [List.getElem?_toArray]; rfl
      case hbt => simp only [List.getElem?_toArray]; rfl
      case sat =>
        go_simp
        refine (ih (u / 10) (by omega) (by omega) d HD.out _).mono ?_
        rintro e y1 ⟨rfl, hb⟩
        obtain ⟨sD, hsD⟩ : ∃ z, z = (⟨(Lib.decDigits (u / 10)).toArray⟩ : ByteArray) := ⟨_, rfl⟩
        have HsD : Hid (sD = ⟨(Lib.decDigits (u / 10)).toArray⟩) := hsD
        rw [← hsD]
        clear hsD
        refine hK.out _ _ (hH.trans hb) (fun hH' => ?_)
        clear hK K hH
        have hH := hH'
        clear hH'
        try simp only [List.setIfInBounds_toArray, List.set]
        clear hb
        refine wpAnyH_ready (rs := [7]) (by kernel_rfl) (by simp) ?_
        refine AllReadyH.cons (o := ?or7a) ?hr7a (fun K hK => ?_) AllReadyH.nil
        case hr7a => simp only [List.getElem?_toArray]; rfl
        go_simp
        have hb := bel1 y1 (.cells #[.int .u8 (48 - r)] 5)
        have HL : Hid (Rd (y1.alloc (.cells #[.int .u8 (48 - r)] 5)) (some ⟨y1.heap.size, 0, none⟩) 1 1 [48 - r]) := rd_one8 y1 (48 - r) ⟨by omega, by omega⟩
        refine hK.out _ _ (hH.trans hb) (fun hH' => ?_)
        clear hK K hH
        have hH := hH'
        clear hH'
        try simp only [List.setIfInBounds_toArray, List.set]
        obtain ⟨y2, hnew⟩ : ∃ v, v = y1.alloc (.cells #[.int .u8 (48 - r)] 5) := ⟨_, rfl⟩
        obtain ⟨gl, hbn⟩ : ∃ v, v = y1.heap.size := ⟨_, rfl⟩
        rw [← hnew] at HL hH ⊢
        rw [← hbn] at HL ⊢
        clear hb hnew hbn
        refine wpAnyH_ready (rs := [8]) (by kernel_rfl) (by simp) ?_
        refine AllReadyH.cons (o := ?or8b) ?hr8b (fun K hK => ?_) AllReadyH.nil
        case hr8b => simp only [List.getElem?_toArray]; rfl
        have s1 := str_of HL.out
        obtain ⟨sX, hsX⟩ : ∃ z, z = strOfNums [48 - r] := ⟨_, rfl⟩
        have HsX : Hid (sX = strOfNums [48 - r]) := hsX
        rw [← hsX] at s1
        clear hsX
        go_simp
        refine hK.out _ _ hH (fun hH' => ?_)
        clear hK K hH
        have hH := hH'
        clear hH'
        try simp only [List.setIfInBounds_toArray, List.set]
        clear s1
        have hap : sD ++ sX = ⟨(Lib.decDigits u).toArray⟩ := by rw [HsD.out, HsX.out, text_snoc _ _ _ HC.out, HU.out]
        have hsz : sD.size + sX.size ≤ 9223372036854775807 := by rw [HsD.out, HsX.out, strOfNums_size]; exact dec_small hb0
        have q9 : ¬ 9223372036854775807 < sD.size + sX.size := by omega
        clear hsz
        refine wpAnyH_take (i := 9) (oi := ?o9d) (v := ?v9d) ?h9d (by kernel_rfl) ?f9d ?r9d (fun _ _ _ h => h) (Or.inl ⟨?w9d, ?y9d⟩) (by assumption) ?t9d
        case h9d => simp only [List.getElem?_toArray]; rfl
        case f9d => kernel_rfl
        case r9d => kernel_rfl
        case w9d => rfl
        case y9d => (intro u hu; (go_simp) <;> with_reducible rfl)
        try simp only [Act.put, List.setIfInBounds_toArray, List.set_cons_zero, List.set_cons_succ]
        refine wpAnyH_take (i := 10) (oi := ?o10d) (v := ?v10d) ?h10d (by kernel_rfl) ?f10d ?r10d (fun _ _ _ h => h) (Or.inl ⟨?w10d, ?y10d⟩) (by assumption) ?t10d
        case h10d => simp only [List.getElem?_toArray]; rfl
        case f10d => kernel_rfl
        case r10d => kernel_rfl
        case w10d => rfl
        case y10d => (intro u hu; (go_simp) <;> with_reducible rfl)
        try simp only [Act.put, List.setIfInBounds_toArray, List.set_cons_zero, List.set_cons_succ]
        refine wpAnyH_done (by kernel_rfl) ?_ _
        refine NoPanic.normal ?_
        go_wp2
        go_ret
        exact ⟨rfl, hH⟩
      case sbt =>
        go_simp
        have hb := bel1 y0 (.cells #[.int .u8 (48 - r)] 5)
        have HL : Hid (Rd (y0.alloc (.cells #[.int .u8 (48 - r)] 5)) (some ⟨y0.heap.size, 0, none⟩) 1 1 [48 - r]) := rd_one8 y0 (48 - r) ⟨by omega, by omega⟩
        refine hK.out _ _ (hH.trans hb) (fun hH' => ?_)
        clear hK K hH
        have hH := hH'
        clear hH'
        try simp only [List.setIfInBounds_toArray, List.set]
        obtain ⟨y3, hnew⟩ : ∃ v, v = y0.alloc (.cells #[.int .u8 (48 - r)] 5) := ⟨_, rfl⟩
        obtain ⟨gl, hbn⟩ : ∃ v, v = y0.heap.size := ⟨_, rfl⟩
        rw [← hnew] at HL hH ⊢
        rw [← hbn] at HL ⊢
        clear hb hnew hbn
        refine wpAnyH_ready (rs := [2, 8]) (by kernel_rfl) (by simp) ?_
        refine AllReadyH.cons (o := ?oav) ?hav (fun K hK => ?sav) (AllReadyH.cons (o := ?obv) ?hbv (fun K hK => ?sbv) AllReadyH.nil)
        case hav => simp only [List.getElem?_toArray]; rfl
        case hbv => simp only [List.getElem?_toArray]; rfl
        case sav =>
          go_simp
          refine (ih (u / 10) (by omega) (by omega) d HD.out _).mono ?_
          rintro e y4 ⟨rfl, hb⟩
          obtain ⟨sD, hsD⟩ : ∃ z, z = (⟨(Lib.decDigits (u / 10)).toArray⟩ : ByteArray) := ⟨_, rfl⟩
          have HsD : Hid (sD = ⟨(Lib.decDigits (u / 10)).toArray⟩) := hsD
          rw [← hsD]
          clear hsD
          replace HL : Hid (Rd y4 (some ⟨gl, 0, none⟩) 1 1 [48 - r]) := HL.out.below hb
          refine hK.out _ _ (hH.trans hb) (fun hH' => ?_)
          clear hK K hH
          have hH := hH'
          clear hH'
          try simp only [List.setIfInBounds_toArray, List.set]
          clear hb
          refine wpAnyH_ready (rs := [8]) (by kernel_rfl) (by simp) ?_
          refine AllReadyH.cons (o := ?or8g) ?hr8g (fun K hK => ?_) AllReadyH.nil
          case hr8g => simp only [List.getElem?_toArray]; rfl
          have s1 := str_of HL.out
          obtain ⟨sX, hsX⟩ : ∃ z, z = strOfNums [48 - r] := ⟨_, rfl⟩
          have HsX : Hid (sX = strOfNums [48 - r]) := hsX
          rw [← hsX] at s1
          clear hsX
          go_simp
          refine hK.out _ _ hH (fun hH' => ?_)
          clear hK K hH
          have hH := hH'
          clear hH'
          try simp only [List.setIfInBounds_toArray, List.set]
          clear s1
          have hap : sD ++ sX = ⟨(Lib.decDigits u).toArray⟩ := by rw [HsD.out, HsX.out, text_snoc _ _ _ HC.out, HU.out]
          have hsz : sD.size + sX.size ≤ 9223372036854775807 := by rw [HsD.out, HsX.out, strOfNums_size]; exact dec_small hb0
          have q9 : ¬ 9223372036854775807 < sD.size + sX.size := by omega
          clear hsz
          refine wpAnyH_take (i := 9) (oi := ?o9i) (v := ?v9i) ?h9i (by kernel_rfl) ?f9i ?r9i (fun _ _ _ h => h) (Or.inl ⟨?w9i, ?y9i⟩) (by assumption) ?t9i
          case h9i => simp only [List.getElem?_toArray]; rfl
          case f9i => kernel_rfl
          case r9i => kernel_rfl
          case w9i => rfl
          case y9i => (intro u hu; (go_simp) <;> with_reducible rfl)
          try simp only [Act.put, List.setIfInBounds_toArray, List.set_cons_zero, List.set_cons_succ]
          refine wpAnyH_take (i := 10) (oi := ?o10i) (v := ?v10i) ?h10i (by kernel_rfl) ?f10i ?r10i (fun _ _ _ h => h) (Or.inl ⟨?w10i, ?y10i⟩) (by assumption) ?t10i
          case h10i => simp only [List.getElem?_toArray]; rfl
          case f10i => kernel_rfl
          case r10i => kernel_rfl
          case w10i => rfl
          case y10i => (intro u hu; (go_simp) <;> with_reducible rfl)
          try simp only [Act.put, List.setIfInBounds_toArray, List.set_cons_zero, List.set_cons_succ]
          refine wpAnyH_done (by kernel_rfl) ?_ _
          refine NoPanic.normal ?_
          go_wp2
          go_ret
          exact ⟨rfl, hH⟩
        case sbv =>
          have s1 := str_of HL.out
          obtain ⟨sX, hsX⟩ : ∃ z, z = strOfNums [48 - r] := ⟨_, rfl⟩
          have HsX : Hid (sX = strOfNums [48 - r]) := hsX
          rw [← hsX] at s1
          clear hsX
          go_simp
          refine hK.out _ _ hH (fun hH' => ?_)
          clear hK K hH
          have hH := hH'
          clear hH'
          try simp only [List.setIfInBounds_toArray, List.set]
          clear s1
          refine wpAnyH_ready (rs := [2]) (by kernel_rfl) (by simp) ?_
          refine AllReadyH.cons (o := ?or2j) ?hr2j (fun K hK => ?_) AllReadyH.nil
          case hr2j => simp only [List.getElem?_toArray]; rfl
          go_simp
          refine (ih (u / 10) (by omega) (by omega) d HD.out _).mono ?_
          rintro e y5 ⟨rfl, hb⟩
          obtain ⟨sD, hsD⟩ : ∃ z, z = (⟨(Lib.decDigits (u / 10)).toArray⟩ : ByteArray) := ⟨_, rfl⟩
          have HsD : Hid (sD = ⟨(Lib.decDigits (u / 10)).toArray⟩) := hsD
          rw [← hsD]
          clear hsD
          replace HL : Hid (Rd y5 (some ⟨gl, 0, none⟩) 1 1 [48 - r]) := HL.out.below hb
          refine hK.out _ _ (hH.trans hb) (fun hH' => ?_)
          clear hK K hH
          have hH := hH'
          clear hH'
          try simp only [List.setIfInBounds_toArray, List.set]
          clear hb
          have hap : sD ++ sX = ⟨(Lib.decDigits u).toArray⟩ := by rw [HsD.out, HsX.out, text_snoc _ _ _ HC.out, HU.out]
          have hsz : sD.size + sX.size ≤ 9223372036854775807 := by rw [HsD.out, HsX.out, strOfNums_size]; exact dec_small hb0
          have q9 : ¬ 9223372036854775807 < sD.size + sX.size := by omega
          clear hsz
          refine wpAnyH_take (i := 9) (oi := ?o9l) (v := ?v9l) ?h9l (by kernel_rfl) ?f9l ?r9l (fun _ _ _ h => h) (Or.inl ⟨?w9l, ?y9l⟩) (by assumption) ?t9l
          case h9l => simp only [List.getElem?_toArray]; rfl
          case f9l => kernel_rfl
          case r9l => kernel_rfl
          case w9l => rfl
          case y9l => (intro u hu; (go_simp) <;> with_reducible rfl)
          try simp only [Act.put, List.setIfInBounds_toArray, List.set_cons_zero, List.set_cons_succ]
          refine wpAnyH_take (i := 10) (oi := ?o10l) (v := ?v10l) ?h10l (by kernel_rfl) ?f10l ?r10l (fun _ _ _ h => h) (Or.inl ⟨?w10l, ?y10l⟩) (by assumption) ?t10l
          case h10l => simp only [List.getElem?_toArray]; rfl
          case f10l => kernel_rfl
          case r10l => kernel_rfl
          case w10l => rfl
          case y10l => (intro u hu; (go_simp) <;> with_reducible rfl)
          try simp only [Act.put, List.setIfInBounds_toArray, List.set_cons_zero, List.set_cons_succ]
          refine wpAnyH_done (by kernel_rfl) ?_ _
          refine NoPanic.normal ?_
          go_wp2
          go_ret
          exact ⟨rfl, hH⟩
/-- The sign ahead. -/
theorem text_neg (l : List UInt8) : (⟨#[45]⟩ : ByteArray) ++ ⟨l.toArray⟩ = ⟨(45 :: l).toArray⟩ := by
  apply ByteArray.ext
  simp
set_option maxRecDepth 8000 in
set_option maxHeartbeats 4000000 in
theorem digits_c (n : Int) (hn : -9223372036854775808 ≤ n ∧ n ≤ 9223372036854775807) (w : World) :
    Calls Tryd.prog 28 #[.int .i64 n] w fun e w' => e = .returned (.string ⟨(Lib.itoa n).toArray⟩) ∧ Below w.heap.size w w' := by
  obtain ⟨n0, n1⟩ := hn
  by_cases h0 : n < 0
  · have HI : Hid (Lib.itoa n = 45 :: Lib.decDigits n.natAbs) := by unfold Hid Lib.itoa; rw [if_pos h0]
    go_enter Tryd.func28, Tryd.ntmps28
    go_wp2_with fail
    refine (below_c n.natAbs (by omega) n (by omega) _).mono ?_
    rintro e V ⟨rfl, hb⟩
    obtain ⟨sD, hsD⟩ : ∃ z, z = (⟨(Lib.decDigits n.natAbs).toArray⟩ : ByteArray) := ⟨_, rfl⟩
    have hap : (⟨#[45]⟩ : ByteArray) ++ sD = ⟨(Lib.itoa n).toArray⟩ := by rw [hsD, HI.out, text_neg]
    have hsz : sD.size ≤ 20 := by
      rw [hsD]
      show (Lib.decDigits n.natAbs).toArray.size ≤ 20
      rw [List.size_toArray, Lib.decDigits_length]
      exact Lib.nDigits_le20 _ (by omega)
    have q9 : ¬ 9223372036854775807 < (⟨#[45]⟩ : ByteArray).size + sD.size := by
      have : (⟨#[45]⟩ : ByteArray).size = 1 := rfl
      omega
    have q8 : ¬ 9223372036854775807 < 1 + sD.size := by omega
    rw [← hsD]
    clear hsD HI
    go_wp2
    go_ret
    exact ⟨rfl, hb⟩
  · have HI : Hid (Lib.itoa n = Lib.decDigits n.toNat) := by unfold Hid Lib.itoa; rw [if_neg h0]
    have hw1 : IntKind.i64.wrap (-n) = -n := by rw [IntKind.wrap_i64]; omega
    go_enter Tryd.func28, Tryd.ntmps28
    go_wp2_with fail
    refine (below_c n.toNat (by omega) (-n) (by omega) _).mono ?_
    rintro e V ⟨rfl, hb⟩
    rw [← HI.out]
    go_wp2
    go_ret
    exact ⟨rfl, hb⟩
end Go.Proofs.YtifcdmiopanedaaDoor
