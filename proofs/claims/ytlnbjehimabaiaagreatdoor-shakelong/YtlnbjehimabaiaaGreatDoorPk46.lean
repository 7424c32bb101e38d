/-
  Several texts of one's own, laid together. No statement of the seat is proved here.
-/
import Derived.Test.YtlnbjehimabaiaaGreatDoorPk43
import Derived.Test.YtlnbjehimabaiaaGreatDoorPk45
import Derived.Test.YtlnbjehimabaiaaGreatDoorPk1
import Derived.Test.YtlnbjehimabaiaaGreatDoorPk16
import Derived.Test.YtlnbjehimabaiaaGreatDoorPk3
import Derived.ProofKit
import Derived.OpenShut
import Derived.ShutString
import Derived.ChangeOld
import Derived.SizedLaws
import Derived.Deep.Matrix
import Derived.Deep.Grids
/-
 A handshake's six steps, where all goes well. No statement of the seat is proved here.
-/
namespace Go.Proofs.YtlnbjehimabaiaaGreatDoor
open Go.RowKit
set_option maxRecDepth 8000

theorem opened_sq (T : S11) (t : List Int) (hN : T.n ≠ 18446744073709551615) : { T with n := on9 T.k T.h T.n T.H (T.bx t), H := h10 0 T.H (T.bx t) } = T.sq t := by
 unfold S11.sq
 rw [show on9 T.k T.h T.n T.H (T.bx t) = sn9 T.h T.n from on9_back _ _ _ _ hN, se9_zero _ hN]
theorem w0_c (q : Nat) (a x : List Int) (S : S11) (p : P11) (ap : Option Addr) (lp cp : Nat) (pl : List Int) (w : World) (hs : Zs w q true a x S p false (0 : Nat)) (hg : Gs w) (hr : Rd w ap lp cp pl) (hq : Nq q ap lp) (hm : lp ≤ 3900) (hn : S.n ≠ 18446744073709551615) :
  Calls Tryz.prog 10 #[.pointer (some ⟨q, 0, none⟩), .slice ap lp cp] w fun e w' => ∃ aw nw cw X, e = .returned (.tuple #[.slice aw nw cw, .int .i64 0]) ∧ Hid (X = x0 x pl S) ∧ Hid (Rd w' aw nw cw X) ∧ Hid (Zs w' q true a x (c0 x pl S) p false (1 : Nat)) ∧ ExtB q w w' ∧ Fr w.heap.size aw nw ∧ nw ≤ lp + 1000 := by
 obtain ⟨h1, h2, h3⟩ := w0 (a := a) (x := x) S p.os p.oF
 refine (write11_c q true a x S p 0 (by decide) rfl ap lp cp pl w hs hg hr hq hm h3 (by rw [h1]; exact hn)).mono ?_
 rintro e V ⟨aw, nw, cw, X, he, HX, HR, HZ, hb⟩
 rw [h1] at HX HZ
 rw [h2] at HX
 exact ⟨aw, nw, cw, X, he, by unfold Hid; rw [HX.out]; rfl, HR, HZ, hb⟩
theorem w1_c (q : Nat) (b y : List Int) (x : List Int) (hx : Bn 32 x) (hb : Bn 32 b) (hy : Bn 32 y) (S : S11) (p : P11) (ap : Option Addr) (lp cp : Nat) (pl : List Int) (w : World) (hs : Zs w q false b y S p false (1 : Nat)) (ho : p.oF = pb x) (hg : Gs w) (hr : Rd w ap lp cp pl) (hq : Nq q ap lp) (hm : lp ≤ 3900) :
  Calls Tryz.prog 10 #[.pointer (some ⟨q, 0, none⟩), .slice ap lp cp] w fun e w' => ∃ aw nw cw X, e = .returned (.tuple #[.slice aw nw cw, .int .i64 0]) ∧ Hid (X = x1 x b y pl S) ∧ Hid (Rd w' aw nw cw X) ∧ Hid (Zs w' q false b y (c1 x b y pl S) p false (2 : Nat)) ∧ ExtB q w w' ∧ Fr w.heap.size aw nw ∧ nw ≤ lp + 1000 := by
 obtain ⟨h1, h2, h3⟩ := (by rw [ho]; exact w1 hx hb hy S p.os : wqs false b y p.os p.oF (tk11 1) S = c1b x b y S ∧ wxs false b y p.os p.oF (tk11 1) S = pb y ++ ((S.mh (pb y)).mk' (dh x (pb y))).bx (pb b) ∧ wks false b y p.os p.oF (tk11 1) S)
 refine (write11_c q false b y S p 1 (by decide) rfl ap lp cp pl w hs hg hr hq hm h3 (by rw [h1]; exact (by show (0 : Int) ≠ 18446744073709551615; decide))).mono ?_
 rintro e V ⟨aw, nw, cw, X, he, HX, HR, HZ, hb⟩
 rw [h1] at HX HZ
 rw [h2] at HX
 exact ⟨aw, nw, cw, X, he, by unfold Hid; rw [HX.out]; exact List.append_assoc _ _ _, HR, HZ, hb⟩
theorem w2_c (q : Nat) (a x : List Int) (y : List Int) (ha : Bn 32 a) (hy : Bn 32 y) (S : S11) (p : P11) (ap : Option Addr) (lp cp : Nat) (pl : List Int) (w : World) (hs : Zs w q true a x S p false (2 : Nat)) (ho : p.oF = pb y) (hg : Gs w) (hr : Rd w ap lp cp pl) (hq : Nq q ap lp) (hm : lp ≤ 3900) (hn : S.n ≠ 18446744073709551615) :
  Calls Tryz.prog 10 #[.pointer (some ⟨q, 0, none⟩), .slice ap lp cp] w fun e w' => ∃ aw nw cw X, e = .returned (.tuple #[.slice aw nw cw, .int .i64 0]) ∧ Hid (X = x2 a y pl S) ∧ Hid (Rd w' aw nw cw X) ∧ Hid (Zs w' q true a x (c2 a y pl S) p false (3 : Nat)) ∧ ExtB q w w' ∧ Fr w.heap.size aw nw ∧ nw ≤ lp + 1000 := by
 obtain ⟨h1, h2, h3⟩ := (by rw [ho]; exact w2 ha hy S p.os hn : wqs true a x p.os p.oF (tk11 2) S = c2a a y S ∧ wxs true a x p.os p.oF (tk11 2) S = S.bx (pb a) ∧ wks true a x p.os p.oF (tk11 2) S)
 refine (write11_c q true a x S p 2 (by decide) rfl ap lp cp pl w hs hg hr hq hm h3 (by rw [h1]; exact (by show (0 : Int) ≠ 18446744073709551615; decide))).mono ?_
 rintro e V ⟨aw, nw, cw, X, he, HX, HR, HZ, hb⟩
 rw [h1] at HX HZ
 rw [h2] at HX
 exact ⟨aw, nw, cw, X, he, by unfold Hid; rw [HX.out]; rfl, HR, HZ, hb⟩
theorem r0_c (q : Nat) (b y : List Int) (x : List Int) (S : S11) (p : P11) (am : Option Addr) (lm cm : Nat) (m : List Int) (pl : List Int) (hpl : Byt pl) (w : World) (hs : Zs w q false b y S p false (0 : Nat)) (hg : Gs w) (hr : Rd w am lm cm m) (hmm : m = x0 x pl S) (hq : Nq q am lm) (hm : lm ≤ 4096) (hn : S.n ≠ 18446744073709551615) :
  Calls Tryz.prog 11 #[.pointer (some ⟨q, 0, none⟩), .slice am lm cm] w fun e w' => ∃ aw nw cw X, e = .returned (.tuple #[.slice aw nw cw, .int .i64 0]) ∧ Hid (X = pl) ∧ Hid (Rd w' aw nw cw X) ∧ Hid (Zs w' q false b y (c0 x pl S) { p with oF := pb x } false (1 : Nat)) ∧ ExtB q w w' ∧ Fr w.heap.size aw nw := by
 have hN : (S.mh (pb x)).n ≠ 18446744073709551615 := hn
 obtain ⟨h1, h2⟩ := r0 (b := b) (y := y) (x := x) S p ((S.mh (pb x)).bx pl)
 have hmm' : m = pb x ++ (S.mh (pb x)).bx pl := hmm
 rw [← hmm'] at h1 h2
 refine (read11_c q false b y S p _ _ _ 0 (by decide) rfl am lm cm m w hs hg hr hq hm h2 h1 (oe9_back _ _ _ _ hN)).mono ?_
 rintro e V ⟨aw, nw, cw, X, he, HX, HR, HZ, hb⟩
 refine ⟨aw, nw, cw, X, he, ?_, HR, ?_, hb⟩
 ·unfold Hid
  rw [HX.out]
  exact ox9_back _ _ _ hN hpl
 ·refine HZ.out.is ?_
  rw [show ∀ T : S11, (⟨T.k, T.h, on9 T.k T.h T.n T.H (T.bx pl), h10 0 T.H (T.bx pl), T.C⟩ : S11) = { T with n := on9 T.k T.h T.n T.H (T.bx pl), H := h10 0 T.H (T.bx pl) } from fun _ => rfl]
  exact opened_sq _ pl hN
theorem r1_c (q : Nat) (a x : List Int) (b y : List Int) (hx : Bn 32 x) (hb : Bn 32 b) (hy : Bn 32 y) (S : S11) (p : P11) (am : Option Addr) (lm cm : Nat) (m : List Int) (pl : List Int) (hpl : Byt pl) (w : World) (hs : Zs w q true a x S p false (1 : Nat)) (hg : Gs w) (hr : Rd w am lm cm m) (hmm : m = x1 x b y pl S) (hq : Nq q am lm) (hm : lm ≤ 4096) :
  Calls Tryz.prog 11 #[.pointer (some ⟨q, 0, none⟩), .slice am lm cm] w fun e w' => ∃ aw nw cw X, e = .returned (.tuple #[.slice aw nw cw, .int .i64 0]) ∧ Hid (X = pl) ∧ Hid (Rd w' aw nw cw X) ∧ Hid (Zs w' q true a x (c1 x b y pl S) ⟨pb b, pb y, true⟩ false (2 : Nat)) ∧ ExtB q w w' ∧ Fr w.heap.size aw nw := by
 have hN : (c1b x b y S).n ≠ 18446744073709551615 := (by show (0 : Int) ≠ 18446744073709551615; decide)
 obtain ⟨h1, h2⟩ := r1 (a := a) hx hb hy S p ((c1b x b y S).bx pl)
 have hmm' : m = pb y ++ (((S.mh (pb y)).mk' (dh x (pb y))).bx (pb b) ++ (c1b x b y S).bx pl) := hmm
 rw [← hmm'] at h1 h2
 refine (read11_c q true a x S p _ _ _ 1 (by decide) rfl am lm cm m w hs hg hr hq hm h2 h1 (oe9_back _ _ _ _ hN)).mono ?_
 rintro e V ⟨aw, nw, cw, X, he, HX, HR, HZ, hb⟩
 refine ⟨aw, nw, cw, X, he, ?_, HR, ?_, hb⟩
 ·unfold Hid
  rw [HX.out]
  exact ox9_back _ _ _ hN hpl
 ·refine HZ.out.is ?_
  rw [show ∀ T : S11, (⟨T.k, T.h, on9 T.k T.h T.n T.H (T.bx pl), h10 0 T.H (T.bx pl), T.C⟩ : S11) = { T with n := on9 T.k T.h T.n T.H (T.bx pl), H := h10 0 T.H (T.bx pl) } from fun _ => rfl]
  exact opened_sq _ pl hN
theorem r2_c (q : Nat) (b y : List Int) (a : List Int) (ha : Bn 32 a) (hy : Bn 32 y) (S : S11) (p : P11) (am : Option Addr) (lm cm : Nat) (m : List Int) (pl : List Int) (hpl : Byt pl) (w : World) (hs : Zs w q false b y S p false (2 : Nat)) (hg : Gs w) (hr : Rd w am lm cm m) (hmm : m = x2 a y pl S) (hq : Nq q am lm) (hm : lm ≤ 4096) (hn : S.n ≠ 18446744073709551615) :
  Calls Tryz.prog 11 #[.pointer (some ⟨q, 0, none⟩), .slice am lm cm] w fun e w' => ∃ aw nw cw X, e = .returned (.tuple #[.slice aw nw cw, .int .i64 0]) ∧ Hid (X = pl) ∧ Hid (Rd w' aw nw cw X) ∧ Hid (Zs w' q false b y (c2 a y pl S) { p with os := pb a, met := true } false (3 : Nat)) ∧ ExtB q w w' ∧ Fr w.heap.size aw nw := by
 have hN : (c2a a y S).n ≠ 18446744073709551615 := (by show (0 : Int) ≠ 18446744073709551615; decide)
 obtain ⟨h1, h2⟩ := r2 (b := b) ha hy S p ((c2a a y S).bx pl) hn
 have hmm' : m = S.bx (pb a) ++ (c2a a y S).bx pl := hmm
 rw [← hmm'] at h1 h2
 refine (read11_c q false b y S p _ _ _ 2 (by decide) rfl am lm cm m w hs hg hr hq hm h2 h1 (oe9_back _ _ _ _ hN)).mono ?_
 rintro e V ⟨aw, nw, cw, X, he, HX, HR, HZ, hb⟩
 refine ⟨aw, nw, cw, X, he, ?_, HR, ?_, hb⟩
 ·unfold Hid
  rw [HX.out]
  exact ox9_back _ _ _ hN hpl
 ·refine HZ.out.is ?_
  rw [show ∀ T : S11, (⟨T.k, T.h, on9 T.k T.h T.n T.H (T.bx pl), h10 0 T.H (T.bx pl), T.C⟩ : S11) = { T with n := on9 T.k T.h T.n T.H (T.bx pl), H := h10 0 T.H (T.bx pl) } from fun _ => rfl]
  exact opened_sq _ pl hN
theorem c1_n (x b y pl : List Int) (S : S11) : (c1 x b y pl S).n = 1 := by
 show sn9 true 0 = 1
 decide
theorem c0_n (x pl : List Int) (S : S11) (h : S.h = false) (hn : S.n = 0) : (c0 x pl S).n = 0 ∧ (c0 x pl S).h = false := by
 refine ⟨?_, h⟩
 show sn9 S.h S.n = 0
 rw [h, hn]
 decide
theorem x0_len (x pl : List Int) (S : S11) (h : S.h = false) : (x0 x pl S).length = 32 + pl.length := by
 unfold x0
 rw [List.length_append, (pb_bn x).len]
 show 32 + (sx9 S.k S.h S.n _ pl).length = _
 rw [h]
 rfl
theorem x1_len (x b y : List Int) {pl : List Int} (S : S11) : (x1 x b y pl S).length = 96 + pl.length := by
 unfold x1
 have e1 : (((S.mh (pb y)).mk' (dh x (pb y))).bx (pb b)).length = 48 := bx_len (S := (S.mh (pb y)).mk' (dh x (pb y))) (by show (0 : Int) ≠ 18446744073709551615; decide) (pb_bn b).len
 have e2 : ((c1b x b y S).bx pl).length = pl.length + 16 := sx9_len _ true _ _ (by show (0 : Int) ≠ 18446744073709551615; decide)
 rw [List.length_append, List.length_append, (pb_bn y).len, e1, e2]
 omega
theorem x2_len (a y : List Int) {pl : List Int} (S : S11) (h : S.h = true) (hn : S.n ≠ 18446744073709551615) : (x2 a y pl S).length = 64 + pl.length := by
 unfold x2
 have e1 : (S.bx (pb a)).length = rz S := bx_len hn (pb_bn a).len
 have e2 : ((c2a a y S).bx pl).length = pl.length + 16 := sx9_len _ true _ _ (by show (0 : Int) ≠ 18446744073709551615; decide)
 rw [List.length_append, e1, e2]
 unfold rz
 rw [if_pos h]
 omega
end Go.Proofs.YtlnbjehimabaiaaGreatDoor
/-
 What law 11's own 'known' does: chapter 11's example holds. No statement of the seat is proved here.
-/
namespace Go.Proofs.YtlnbjehimabaiaaGreatDoor
open Go.RowKit
set_option maxRecDepth 8000

theorem public_p (k : List Int) (hk : Bn 32 k) (w : World) : Calls Tryz.prog 15 #[(.agg (List.map (Value.int .u8) k).toArray)] w fun e w' => ∃ X, e = .returned (.agg (List.map (Value.int .u8) X).toArray) ∧ Hid (X = pb k) ∧ Hid (Bn 32 X) ∧ Below w.heap.size w w' := by
 refine (Fc.public_l k (by_bn hk) w).mono ?_
 rintro e V ⟨z, rfl, -, hz, hb⟩
 exact ⟨lay 32 z, rfl, by unfold Hid pb; rw [hz.out], lay_bn _ _, hb⟩
set_option maxHeartbeats 4000000 in
theorem known11_any (w : World) (hg : Gs w) : Calls Tryz.prog 9 #[] w fun e w' => e = .returned (.bool true) ∧ Below w.heap.size w w' := by
 have HG : Hid (Gs w) := hg
 clear hg
 go_enter Tryz.func9, Tryz.ntmps9
 go_wp2_with fail
 refine (pair_l none 0 0 [] none 0 0 [] 5 (by decide) _ (Rd.nil _ _ _ (fun _ => rfl)) (Rd.nil _ _ _ (fun _ => rfl)) HG.out (by decide) (by decide)).mono ?_
 rintro e V1 ⟨ba, bb, a, x, b, y, rfl, kba, hab, HSB, ZA, ZB, hb⟩
 have kbb : w.heap.size ≤ bb := by omega
 replace HG := hidp (HG.out.later hb)
 have HB : Hid (Below w.heap.size w V1) := hb
 clear hb
 go_wp2_with fail
 refine (write11_no bb false b y (s11 []) ⟨z9l, z9l, false⟩ 0 (by decide) (.inr rfl) none 0 0 _ ZB.out).mono ?_
 rintro e V2 ⟨rfl, hb⟩
 replace HG := hidp (HG.out.later hb)
 replace ZA := hidp (ZA.out.later hb)
 replace ZB := hidp (ZB.out.later hb)
 replace HB := hidp (HB.out.trans (hb.mono HB.out.size))
 clear hb
 go_wp2_with fail
 refine (w0_c ba a x (s11 []) ⟨z9l, z9l, false⟩ none 0 0 [] _ ZA.out HG.out (Rd.nil _ _ _ (fun _ => rfl)) nq_nil (by decide) (by show (0 : Int) ≠ 18446744073709551615; decide)).mono ?_
 rintro e V3 ⟨aX, nX, cX, X, rfl, HX, RX, Z', hb, hfX, hnX⟩
 replace HG : Hid (Gs V3) := ZA.out.gs HG.out hb
 replace ZB : Hid (Zs V3 bb false b y (s11 []) ⟨z9l, z9l, false⟩ false (0 : Nat)) := ZB.out.extb hb (by omega)
 replace HB : Hid (Below w.heap.size w V3) := hb.below HB.out kba
 replace ZA := Z'
 clear Z' hb
 clear hfX
 have hl : nX = 32 := by rw [← RX.out.hlen, HX.out]; exact x0_len x [] (s11 []) rfl
 subst hl
 clear HX RX
 go_wp2
 go_ret
 exact ⟨rfl, HB.out⟩
end Go.Proofs.YtlnbjehimabaiaaGreatDoor
/-
 How arrays and slices of bytes that came in are opened. No statement of the seat is proved here.
-/
namespace Go.Proofs.YtlnbjehimabaiaaGreatDoor
open Go.ChangeShapes Go.WideShapes Go.ChangeAt Go.RowKit
set_option maxRecDepth 8000

theorem own : ownKnob Tryz.prog.godebug = none := by kernel_rfl
theorem laidOut : laidOutB Tryz.prog = true := by kernel_rfl
theorem bytes5 : Tryz.prog.bytesOf 5 = 1 := by kernel_rfl
theorem cells5 : Tryz.prog.cellsOf 5 = 1 := by kernel_rfl
theorem cells32 : Tryz.prog.cellsOf 30 = 32 := by kernel_rfl
theorem cells12 : Tryz.prog.cellsOf 91 = 12 := by kernel_rfl
def intIn : Value → Int
 | .int _ n => n
 | _ => 0
theorem open_arr32 {H : Type} {enc : TypeId × Value → H} {W : World} {b0 base : Nat} {spare : Nat → Bool} {held : Bool} {v : Value} {d : DataW H} {p : List MemPlace} (hval : Value.okWide Tryz.prog W .any b0 30 v) (h : DataW.Trod enc Tryz.prog W base spare held 30 v d p) :
  ∃ l, v = (.agg (List.map (Value.int .u8) l).toArray) ∧ Bn 32 l := by
 unfold Value.okWide at hval
 rw [Tryz.underlying30] at hval
 obtain ⟨cs, rfl, hsz, _⟩ := hval
 rw [cells32] at hsz
 obtain ⟨fuel, hf⟩ := h
 obtain ⟨xs, m, _, _, _, hxl, hall⟩ := DataW.trod_array Tryz.underlying30 hf
 have key : ∀ i (hi : i < cs.size), ∃ n, cs[i] = .int .u8 n ∧ 0 ≤ n ∧ n ≤ 255 := by
  intro i hi
  have hx := hall i (by omega)
  rw [List.getElem?_eq_getElem (by omega), cells5, Nat.mul_one] at hx
  obtain ⟨n, h1, _, hw⟩ := DataW.trod_int Tryz.underlying5 hx
  have hb := bounds_u8 hw
  refine ⟨n, ?_, hb⟩
  have h2 : ((cs.toList.drop i).take 1)[0]? = some (.int .u8 n) := by
   have : ((Value.agg cs).cells.toList.drop i).take 1 = [.int .u8 n] := h1
   have e : (Value.agg cs).cells = cs := rfl
   rw [e] at this
   rw [this]
   rfl
  rw [List.getElem?_take_of_lt (by decide), List.getElem?_drop, Nat.add_zero] at h2
  rw [Array.getElem?_toList, Array.getElem?_eq_getElem hi] at h2
  exact Option.some.inj h2
 refine ⟨cs.toList.map intIn, ?_, ?_, ?_⟩
 ·congr 1
  apply Array.ext
  ·simp
  ·intro i h1 h2
   obtain ⟨n, hn, _⟩ := key i h1
   simp [hn, intIn]
 ·rw [List.length_map, Array.length_toList, hsz]
 ·intro x hx
  obtain ⟨y, hy, rfl⟩ := List.mem_map.1 hx
  obtain ⟨i, hi, rfl⟩ := List.getElem_of_mem hy
  obtain ⟨n, hn, hb⟩ := key i (by simpa using hi)
  rw [Array.getElem_toList, hn]
  exact hb
theorem open_arr12 {H : Type} {enc : TypeId × Value → H} {W : World} {b0 base : Nat} {spare : Nat → Bool} {held : Bool} {v : Value} {d : DataW H} {p : List MemPlace} (hval : Value.okWide Tryz.prog W .any b0 91 v) (h : DataW.Trod enc Tryz.prog W base spare held 91 v d p) :
  ∃ l, v = (.agg (List.map (Value.int .u8) l).toArray) ∧ Bn 12 l := by
 unfold Value.okWide at hval
 rw [Tryz.underlying91] at hval
 obtain ⟨cs, rfl, hsz, _⟩ := hval
 rw [cells12] at hsz
 obtain ⟨fuel, hf⟩ := h
 obtain ⟨xs, m, _, _, _, hxl, hall⟩ := DataW.trod_array Tryz.underlying91 hf
 have key : ∀ i (hi : i < cs.size), ∃ n, cs[i] = .int .u8 n ∧ 0 ≤ n ∧ n ≤ 255 := by
  intro i hi
  have hx := hall i (by omega)
  rw [List.getElem?_eq_getElem (by omega), cells5, Nat.mul_one] at hx
  obtain ⟨n, h1, _, hw⟩ := DataW.trod_int Tryz.underlying5 hx
  have hb := bounds_u8 hw
  refine ⟨n, ?_, hb⟩
  have h2 : ((cs.toList.drop i).take 1)[0]? = some (.int .u8 n) := by
   have : ((Value.agg cs).cells.toList.drop i).take 1 = [.int .u8 n] := h1
   have e : (Value.agg cs).cells = cs := rfl
   rw [e] at this
   rw [this]
   rfl
  rw [List.getElem?_take_of_lt (by decide), List.getElem?_drop, Nat.add_zero] at h2
  rw [Array.getElem?_toList, Array.getElem?_eq_getElem hi] at h2
  exact Option.some.inj h2
 refine ⟨cs.toList.map intIn, ?_, ?_, ?_⟩
 ·congr 1
  apply Array.ext
  ·simp
  ·intro i h1 h2
   obtain ⟨n, hn, _⟩ := key i h1
   simp [hn, intIn]
 ·rw [List.length_map, Array.length_toList, hsz]
 ·intro x hx
  obtain ⟨y, hy, rfl⟩ := List.mem_map.1 hx
  obtain ⟨i, hi, rfl⟩ := List.getElem_of_mem hy
  obtain ⟨n, hn, hb⟩ := key i (by simpa using hi)
  rw [Array.getElem_toList, hn]
  exact hb
theorem cells16 : Tryz.prog.cellsOf 122 = 16 := by kernel_rfl
theorem open_arr16 {H : Type} {enc : TypeId × Value → H} {W : World} {b0 base : Nat} {spare : Nat → Bool} {held : Bool} {v : Value} {d : DataW H} {p : List MemPlace} (hval : Value.okWide Tryz.prog W .any b0 122 v) (h : DataW.Trod enc Tryz.prog W base spare held 122 v d p) :
  ∃ l, v = (.agg (List.map (Value.int .u8) l).toArray) ∧ Bn 16 l := by
 unfold Value.okWide at hval
 rw [Tryz.underlying122] at hval
 obtain ⟨cs, rfl, hsz, _⟩ := hval
 rw [cells16] at hsz
 obtain ⟨fuel, hf⟩ := h
 obtain ⟨xs, m, _, _, _, hxl, hall⟩ := DataW.trod_array Tryz.underlying122 hf
 have key : ∀ i (hi : i < cs.size), ∃ n, cs[i] = .int .u8 n ∧ 0 ≤ n ∧ n ≤ 255 := by
  intro i hi
  have hx := hall i (by omega)
  rw [List.getElem?_eq_getElem (by omega), cells5, Nat.mul_one] at hx
  obtain ⟨n, h1, _, hw⟩ := DataW.trod_int Tryz.underlying5 hx
  have hb := bounds_u8 hw
  refine ⟨n, ?_, hb⟩
  have h2 : ((cs.toList.drop i).take 1)[0]? = some (.int .u8 n) := by
   have : ((Value.agg cs).cells.toList.drop i).take 1 = [.int .u8 n] := h1
   have e : (Value.agg cs).cells = cs := rfl
   rw [e] at this
   rw [this]
   rfl
  rw [List.getElem?_take_of_lt (by decide), List.getElem?_drop, Nat.add_zero] at h2
  rw [Array.getElem?_toList, Array.getElem?_eq_getElem hi] at h2
  exact Option.some.inj h2
 refine ⟨cs.toList.map intIn, ?_, ?_, ?_⟩
 ·congr 1
  apply Array.ext
  ·simp
  ·intro i h1 h2
   obtain ⟨n, hn, _⟩ := key i h1
   simp [hn, intIn]
 ·rw [List.length_map, Array.length_toList, hsz]
 ·intro x hx
  obtain ⟨y, hy, rfl⟩ := List.mem_map.1 hx
  obtain ⟨i, hi, rfl⟩ := List.getElem_of_mem hy
  obtain ⟨n, hn, hb⟩ := key i (by simpa using hi)
  rw [Array.getElem_toList, hn]
  exact hb
/-- A slice of bytes that came in. -/
theorem open_bytes {H : Type} {enc : TypeId × Value → H} {W : World} {base : Nat} {spare : Nat → Bool} {held : Bool} {a : Option Addr} {len cap : Nat} {d : DataW H} {p : List MemPlace} (h : DataW.Trod enc Tryz.prog W base spare held 25 (.slice a len cap) d p) :
  ∃ l, Rd W a len cap l ∧ ((d = .nil ∧ len = 0) ∨ ∃ e s, d = .slice e s ∧ len ≤ e.length + s.length) := by
 obtain ⟨fuel, hf⟩ := h
 rcases open_ints Tryz.underlying25 Tryz.underlying5 cells5 hf with ⟨hcs, hx⟩ | ⟨x, l, c, zs, hcs, _, hl, hm, hz, hx, hcell, hwz⟩
 ·simp [Value.cells] at hcs
  obtain ⟨rfl, rfl, rfl⟩ := hcs
  simp only [Prod.mk.injEq] at hx
  exact ⟨[], Rd.nil _ _ _ (fun _ => rfl), .inl ⟨hx.1, rfl⟩⟩
 ·simp [Value.cells] at hcs
  obtain ⟨rfl, rfl, rfl⟩ := hcs
  simp only [Prod.mk.injEq] at hx
  have hzl : len ≤ zs.length := by rw [hz]; split <;> omega
  refine ⟨zs.take len, ⟨by rw [List.length_take]; omega, hl, (fun h => by cases h), fun n hn => bounds_u8 (hwz n (List.mem_of_mem_take hn)), fun h0 => ?_⟩, .inr ⟨_, _, hx.1, ?_⟩⟩
  ·obtain ⟨b, off, rfl, hc⟩ := ints_at hcell (by omega)
   refine ⟨b, off, rfl, fun i hi => ?_⟩
   rw [hc i (by omega), List.getD_eq_getElem?_getD, List.getElem?_take_of_lt hi]
  ·simp only [lits, List.length_map, List.length_take, List.length_drop]
   omega
/-- Its length is within the form's own reach. -/
theorem reach_bytes {H : Type} {ts : List TypeId} {ds : List (DataW H)} {d : DataW H} {len : Nat} (hsz : (DataW.weightsEach Tryz.prog ts ds).all (· ≤ reachBytes) = true) (j : Nat) (ht : ts[j]? = some 25) (hd : ds[j]? = some d)
  (h : (d = .nil ∧ len = 0) ∨ ∃ e s, d = .slice e s ∧ len ≤ e.length + s.length) : len ≤ 140737488351232 := by
 rcases h with ⟨_, rfl⟩ | ⟨e, s, rfl, hl⟩
 ·omega
 ·have := sized_slice hsz (j := j) (t := 25) (e := 5) ht hd Tryz.underlying25
  rw [bytes5] at this
  simp only [reachBytes] at this
  omega
end Go.Proofs.YtlnbjehimabaiaaGreatDoor
/-
 Slices of slices of bytes, of truth values that came in, each within the form's own reach. No statement of the seat is proved here.
-/
namespace Go.Proofs.YtlnbjehimabaiaaGreatDoor
open Go.ChangeShapes Go.WideShapes Go.ChangeAt Go.RowKit Go.Deep
set_option maxRecDepth 8000

theorem cellsS9 : Tryz.prog.cellsOf 25 = 1 := by kernel_rfl
theorem weights_all {H : Type} {P : Program} {e : TypeId} : ∀ {ds : List (DataW H)} {d : DataW H}, d ∈ ds → ∀ n ∈ d.weights P e, n ∈ DataW.weightsAll P e ds
 | d0 :: ds, d, hd, n, hn => by
  simp only [DataW.weightsAll, List.mem_append]
  rcases List.mem_cons.1 hd with rfl | h
  ·exact .inl hn
  ·exact .inr (weights_all h n hn)
 | [], _, hd, _, _ => by simp at hd
/-- Each text of a list that came in is within the form's own reach. -/
def Few9 (L : List (List Int)) : Prop := ∀ i : Nat, (L[i]?.getD []).length ≤ 140737488351232
theorem open_texts {H : Type} {enc : TypeId × Value → H} {W : World} {base : Nat} {held : Bool} {a : Option Addr} {len cap : Nat} {d : DataW H} {p : List MemPlace} {ts : List TypeId} {ds : List (DataW H)} (h : DataW.Trod enc Tryz.prog W base (fun _ => true) held 127 (.slice a len cap) d p)
  (hsz : (DataW.weightsEach Tryz.prog ts ds).all (· ≤ reachBytes) = true) (j : Nat) (ht : ts[j]? = some 127) (hd : ds[j]? = some d) :
  ∃ L, RdL W a len L ∧ Few9 L := by
 obtain ⟨fuel, hf⟩ := h
 rcases open_int_rows Tryz.underlying127 Tryz.underlying25 Tryz.underlying5 cellsS9 cells5 hf with ⟨hcs, hx⟩ | ⟨x, l, c, A, N, C, Z, hcs, _, hl, hm, hx, hrow⟩
 ·simp [Value.cells] at hcs
  obtain ⟨rfl, rfl, rfl⟩ := hcs
  exact ⟨[], ⟨rfl, fun h => by omega⟩, fun i => by simp⟩
 ·simp [Value.cells] at hcs
  obtain ⟨rfl, rfl, rfl⟩ := hcs
  simp only [Prod.mk.injEq] at hx
  obtain ⟨hdd, _⟩ := hx
  refine ⟨(List.range len).map fun r => if A r = none then [] else (Z r).take (N r), ⟨by simp, fun h0 => ?_⟩, fun i => ?_⟩
  ·obtain ⟨b, off, spot⟩ := x
   have hspot : spot = none := by simpa [Addr.add] using World.cell?_spot (hrow 0 (by omega)).1
   subst hspot
   refine ⟨b, off, rfl, fun i hi => ?_⟩
   obtain ⟨hc, h1, h2, h3, h4, h5, h6⟩ := hrow i (by omega)
   refine ⟨A i, N i, C i, by rw [← Go.WideShapes.add_plain]; exact hc, ?_⟩
   rw [List.getElem?_map, List.getElem?_range hi]
   simp only [Option.map_some, Option.getD_some]
   cases hA : A i with
   | none =>
    have e1 := h5 hA
    have e2 : N i = 0 := by omega
    rw [if_pos rfl, e1, e2]
    exact Rd.nil _ _ _ (fun _ => rfl)
   | some y =>
    rw [if_neg (by simp)]
    obtain ⟨_, hcell⟩ := h6 y hA
    refine ⟨by rw [List.length_take]; omega, h1, (fun h => by cases h), fun m hm' => bounds_u8 (h4 m (List.mem_of_mem_take hm')), fun hpos => ?_⟩
    obtain ⟨b2, o2, rfl, hc2⟩ := ints_at (zs := Z i) (fun j hj => hcell j (by omega)) (by omega)
    refine ⟨b2, o2, rfl, fun j hj => ?_⟩
    rw [hc2 j (by omega), List.getD_eq_getElem?_getD, List.getElem?_take_of_lt hj]
  ·by_cases hi : i < len
   ·rw [List.getElem?_map, List.getElem?_range hi]
    simp only [Option.map_some, Option.getD_some]
    by_cases hA : A i = none
    ·rw [if_pos hA]
     simp
    ·rw [if_neg hA]
     obtain ⟨y, hy⟩ := Option.ne_none_iff_exists'.1 hA
     rw [hdd] at hd
     have hmem : intRow (H := H) .u8 (A i) (N i) (Z i) ∈ (List.range len).map fun r => intRow (H := H) .u8 (A r) (N r) (Z r) := List.mem_map.2 ⟨i, List.mem_range.2 hi, rfl⟩
     have hw : ((lits (H := H) .u8 ((Z i).take (N i))).length + (lits (H := H) .u8 ((Z i).drop (N i))).length) * Tryz.prog.bytesOf 5 ∈ DataW.weightsEach Tryz.prog ts ds := by
      refine DataW.weights_mem_each ht hd _ ?_
      simp only [DataW.weights, Tryz.underlying127]
      refine List.mem_cons_of_mem _ (List.mem_append_left _ (weights_all hmem _ ?_))
      simp only [intRow, hy, DataW.weights, Tryz.underlying25]
      exact List.mem_cons_self
     have := List.all_eq_true.1 hsz _ hw
     rw [bytes5] at this
     simp only [lits, List.length_map, List.length_take, List.length_drop, reachBytes, decide_eq_true_eq] at this ⊢
     omega
   ·rw [List.getElem?_eq_none (by simp; omega)]
    simp
theorem cellsB9 : Tryz.prog.cellsOf 4 = 1 := by kernel_rfl
/-- A slice of truth values. -/
structure Rb (w : World) (a : Option Addr) (len : Nat) (l : List Bool) : Prop where
 hlen : l.length = len
 cell : 0 < len → ∃ b off, a = some ⟨b, off, none⟩ ∧ ∀ i, i < len → w.cell? ⟨b, off + i, none⟩ = some (.bool (l[i]?.getD false))
theorem open_truths {H : Type} {enc : TypeId × Value → H} {W : World} {base : Nat} {held : Bool} {a : Option Addr} {len cap : Nat} {d : DataW H} {p : List MemPlace} (h : DataW.Trod enc Tryz.prog W base (fun _ => true) held 57 (.slice a len cap) d p) :
  ∃ l, Rb W a len l := by
 obtain ⟨fuel, hf⟩ := h
 rcases open_bools Tryz.underlying57 Tryz.underlying4 cellsB9 hf with ⟨hcs, hx⟩ | ⟨x, l, c, B, hcs, _, hl, hm, hx, hrow⟩
 ·simp [Value.cells] at hcs
  obtain ⟨rfl, rfl, rfl⟩ := hcs
  exact ⟨[], ⟨rfl, fun h => by omega⟩⟩
 ·simp [Value.cells] at hcs
  obtain ⟨rfl, rfl, rfl⟩ := hcs
  refine ⟨(List.range len).map B, ⟨by simp, fun h0 => ?_⟩⟩
  obtain ⟨b, off, spot⟩ := x
  have hspot : spot = none := by simpa [Addr.add] using World.cell?_spot (hrow 0 (by omega))
  subst hspot
  refine ⟨b, off, rfl, fun i hi => ?_⟩
  have hc := hrow i (by omega)
  rw [← Go.WideShapes.add_plain, hc, List.getElem?_map, List.getElem?_range hi]
  rfl
end Go.Proofs.YtlnbjehimabaiaaGreatDoor
