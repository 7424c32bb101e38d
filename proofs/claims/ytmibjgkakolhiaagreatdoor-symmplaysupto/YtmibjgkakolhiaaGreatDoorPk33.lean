/-
  Several texts of one's own, laid together. No statement of the seat is proved here.
-/
import Derived.Test.YtmibjgkakolhiaaGreatDoorPk1
import Derived.Test.YtmibjgkakolhiaaGreatDoorPk32
import Derived.Test.YtmibjgkakolhiaaGreatDoorPk15
import Derived.Test.YtmibjgkakolhiaaGreatDoorPk17
import Derived.Test.YtmibjgkakolhiaaGreatDoorPk16
/-
 What kdf's Derive does. No statement of the seat is proved here.
-/
namespace Go.Proofs.YtmibjgkakolhiaaGreatDoor
open Go.RowKit

/-- The keys so far, and noughts. -/
def kz8 (t : List Int) (n k : Nat) : List Int := (kl8 t k).flatten ++ List.replicate (32 * (n - k)) 0
set_option maxRecDepth 8000 in
theorem kz8_flat (t : List Int) (k : Nat) : (kl8 t k).flatten.length = 32 * k := by rw [flat32 (kl8_bn t k), kl8_len]
set_option maxRecDepth 8000 in
theorem kz8_zero (t : List Int) (n : Nat) : kz8 t n 0 = List.replicate (32 * n) 0 := rfl
set_option maxRecDepth 8000 in
theorem kz8_all (t : List Int) (n : Nat) : kz8 t n n = (kl8 t n).flatten := by unfold kz8; rw [Nat.sub_self, Nat.mul_zero, List.replicate_zero, List.append_nil]
set_option maxRecDepth 8000 in
theorem kz8_byt (t : List Int) (n k : Nat) : Byt (kz8 t n k) := (flat_byt (kl8_bn t k)).app (byt_zero _)
set_option maxRecDepth 8000 in
theorem kz8_len (t : List Int) (n k : Nat) (h : k ≤ n) : (kz8 t n k).length = 32 * n := by unfold kz8; rw [List.length_append, kz8_flat, List.length_replicate]; omega
set_option maxRecDepth 8000 in
theorem kz8_succ (t : List Int) (n k : Nat) (h : k < n) : (kz8 t n k).take (32 * k) ++ (ky8 t (k + 1) ++ (kz8 t n k).drop (32 * k + 32)) = kz8 t n (k + 1) := by
 unfold kz8
 have e := kz8_flat t k
 rw [List.take_left' e, ← List.drop_drop, List.drop_left' e, List.drop_replicate, kl8, List.flatten_append, List.flatten_cons, List.flatten_nil, List.append_nil, List.append_assoc]
 congr 3
 omega
set_option maxRecDepth 8000 in
theorem kz8_at (t : List Int) (n k : Nat) : ((kz8 t n (k + 1)).drop (32 * k)).take 32 = ky8 t (k + 1) := by
 unfold kz8
 have e := kz8_flat t k
 have e2 := (ky8_bn t k).len
 rw [kl8, List.flatten_append, List.flatten_cons, List.flatten_nil, List.append_nil, List.append_assoc, List.drop_left' e, List.take_left' e2]
set_option maxRecDepth 8000 in
theorem rd_one (u : World) (x : Int) (hx : 0 ≤ x ∧ x ≤ 255) (t : TypeId) : Rd (u.alloc (.cells #[.int .u8 x] t)) (some ⟨u.heap.size, 0, none⟩) 1 1 [x] :=
 rd_mark u [x] (fun y hy => by rw [List.mem_singleton.1 hy]; exact hx) t _ 1 (Nat.le_refl _) _ (fun i hi => by match i, hi with | 0, _ => rfl)
set_option maxRecDepth 8000 in
theorem info32 : (Tryz.prog.info? 33).map (fun i => (i.zero, i.size, i.bytes)) = some (some (.agg zb32), 32, 32) := by kernel_rfl
set_option maxRecDepth 8000 in
theorem made32 (n : Nat) (h : n = 2 ∨ n = 3) : (madeCells zb32 (n * 32)).toList = (List.map (Value.int .u8) (List.replicate (32 * n) 0)) := by
 rcases h with rfl | rfl <;> kernel_rfl
set_option maxRecDepth 8000 in
theorem own_ar {u : World} {base e g n cap N : Nat} {xs : List Value} (h : u.ownsRow base e 32 (.slice (some ⟨g, 0, none⟩) n cap) n xs) (hN : N = n * 32) : Ar u g N xs :=
 ⟨fun j v hv => by
  have hj : j < n * 32 := by rw [← h.1]; exact (List.getElem?_eq_some_iff.1 hv).1
  rw [Nat.zero_add, h.cellAt j hj]
  exact hv, fun j hj => by
  rw [Nat.zero_add]
  have hj2 : j < xs.length := by rw [h.1]; omega
  exact ⟨by rw [h.cellAt j (by omega), List.getElem?_eq_getElem hj2]; rfl, World.ownsRow.frozenAt h j⟩, by rw [h.1, hN]⟩
set_option maxRecDepth 8000 in
set_option maxHeartbeats 4000000 in
theorem derive_no (chain : List Int) (a : Option Addr) (len cap : Nat) (n : Int) (h2 : n ≠ 2) (h3 : n ≠ 3) (w : World) :
  Calls Tryz.prog 25 #[(.agg (List.map (Value.int .u8) chain).toArray), .slice a len cap, .int .i64 n] w fun e w' => e = .returned (.slice none 0 0) ∧ Below w.heap.size w w' := by
 have e2 : (n != 2) = true := by simpa using h2
 have e3 : (n != 3) = true := by simpa using h3
 go_enter Tryz.func25, Tryz.ntmps25
 go_wp2
 go_ret
 exact ⟨rfl, bel1 _ _⟩
set_option maxRecDepth 8000 in
set_option maxHeartbeats 4000000 in
theorem derive_yes (chain : List Int) (a : Option Addr) (len cap : Nat) (input : List Int) (n : Nat) (hc : Bn 32 chain) (hn : n = 2 ∨ n = 3) (w : World) (hr : Rd w a len cap input) (hg : Gb w) (hT : 64 + len ≤ 4611686018427387904) :
  Calls Tryz.prog 25 #[(.agg (List.map (Value.int .u8) chain).toArray), .slice a len cap, .int .i64 n] w fun e w' => ∃ g, e = .returned (.slice (some ⟨g, 0, none⟩) n n) ∧ Hid (RdA w' (some ⟨g, 0, none⟩) n (kl8 (hm8 chain input) n)) ∧ Below w.heap.size w w' := by
 have HR : Hid (Rd w a len cap input) := hr
 have HG : Hid (Gb w) := hg
 have HC : Hid (Bn 32 chain) := hc
 have HLI : Hid (input.length = len) := hr.hlen
 have hn3 : n ≤ 3 := by omega
 have hn2 : 2 ≤ n := by omega
 have HN : Hid (n = 2 ∨ n = 3) := hn
 obtain ⟨i0, hi, hz0, hz1, hz2⟩ := info_parts info32
 clear hr hg hc hn
 go_enter Tryz.func25, Tryz.ntmps25
 go_upto_region 1 with fail
 have AC : Hid (Ar (w.alloc (.cells (List.map (Value.int .u8) chain).toArray 33)) w.heap.size 32 (List.map (Value.int .u8) chain)) := ar_box w _ 32 HC.out.map_len _
 have HB : Hid (Below w.heap.size w (w.alloc (.cells (List.map (Value.int .u8) chain).toArray 33))) := bel1 _ _
 obtain ⟨W0, hW0⟩ : ∃ W, W = (w.alloc (.cells (List.map (Value.int .u8) chain).toArray 33)) := ⟨_, rfl⟩
 obtain ⟨bc, hbc⟩ : ∃ q, q = w.heap.size := ⟨_, rfl⟩
 rw [← hW0] at AC HB ⊢
 have HQ : Hid (bc = w.heap.size) := hbc
 rw [← hbc] at AC ⊢
 clear hW0 hbc
 go_cut [16] from 11 (fun v wx => v = .bool false ∧ wx = W0)
 case first =>
  rcases HN.out with rfl | rfl
  ·have e2 : (((2 : Nat) : Int) != 2) = false := rfl
   go_wp2_with fail
   go_meet
   case rel => exact ⟨rfl, rfl⟩
  ·have e2 : (((3 : Nat) : Int) != 2) = true := rfl
   have e3 : (((3 : Nat) : Int) != 3) = false := rfl
   go_wp2_with fail
   go_meet
   case rel => exact ⟨rfl, rfl⟩
 case rest =>
 obtain ⟨rfl, hcw⟩ := hcut
 rw [hcw]
 clear hcw
 have hb1 := bel1 W0 (.cells #[.slice a len cap] 28)
 have Y1 : Hid (RdL (W0.alloc (.cells #[.slice a len cap] 28)) (some ⟨W0.heap.size, 0, none⟩) 1 [input]) := RdL.one W0 _ len cap _ 28 (HR.out.below HB.out)
 have HB1 : Hid (Below w.heap.size w (W0.alloc (.cells #[.slice a len cap] 28))) := HB.out.trans (hb1.mono HB.out.size)
 have HRC : Hid (Rd (W0.alloc (.cells #[.slice a len cap] 28)) (some ⟨bc, 0, none⟩) 32 32 chain) := (AC.out.later hb1).rd_all HC.out.byt 32 (by decide)
 go_wp2_with fail
 refine (mac_c (some ⟨bc, 0, none⟩) 32 32 chain (some ⟨W0.heap.size, 0, none⟩) 1 1 [input] _ HRC.out Y1.out (HG.out.later HB1.out) (by decide) (by decide) (by simp only [List.flatten_cons, List.flatten_nil, List.append_nil]; rw [HLI.out]; exact hT)).mono ?_
 rintro e V ⟨T, rfl, HT, hb⟩
 replace HT : Hid (T = hm8 chain input) := by have := HT.out; rwa [List.flatten_cons, List.flatten_nil, List.append_nil] at this
 have HTN : Hid (Bn 32 T) := by unfold Hid; rw [HT.out]; exact hm8_bn _ _
 replace HB : Hid (Below w.heap.size w V) := HB1.out.trans (hb.mono HB1.out.size)
 clear hb hb1 Y1 HB1 HRC AC HR
 obtain ⟨hlenbt, honebt, hibt⟩ := bn32_cells HTN.out
 obtain ⟨csbt, hcs⟩ : ∃ cs, cs = (List.map (Value.int .u8) T) := ⟨_, rfl⟩
 rw [← hcs] at hlenbt honebt hibt ⊢
 have HCbt : Hid (csbt = (List.map (Value.int .u8) T)) := hcs
 clear hcs
 have hth := there_new V 32 zb32 rfl 33
 have Abt : Hid (Ar ((V.alloc (.cells zb32 33)).setCells V.heap.size 0 csbt) V.heap.size 32 (List.map (Value.int .u8) T)) := by rw [← HCbt.out]; exact ar_var _ _ 32 rfl _ _ hlenbt
 have hX : Below V.heap.size V ((V.alloc (.cells zb32 33)).setCells V.heap.size 0 csbt) := bel_var _ _ _ _
 go_upto_region 4 with (refine wpList_store_mid rfl 33 (.tmp 7) (.tmp 20) rfl V.heap.size 0 csbt.toArray rfl rfl (by simpa [hlenbt] using hth) (by simpa using hibt) (all_oneCell_toArray honebt) ?_)
 clear hth honebt hlenbt
 obtain ⟨W1, hnew⟩ : ∃ W, W = ((V.alloc (.cells zb32 33)).setCells V.heap.size 0 csbt) := ⟨_, rfl⟩
 obtain ⟨bt, hblk⟩ : ∃ q, q = V.heap.size := ⟨_, rfl⟩
 rw [← hnew] at Abt hX ⊢
 rw [← hblk] at Abt ⊢
 rw [HCbt.out] at hibt
 clear hnew HCbt
 replace HB := hidp (HB.out.trans (hX.mono HB.out.size))
 have kbt : bt < W1.heap.size := Abt.out.lt (by decide)
 have kW1 : w.heap.size ≤ W1.heap.size := HB.out.size
 clear hX hblk hibt
 go_wp2_with (at_make; refine wpList_make_full _ rfl _ _ 57 rfl W1.heap.size 33 i0 (.agg zb32) 32 Tryz.underlying57 hi hz0 hz1 _ _ _ _ n rfl rfl rfl rfl (by rw [hz2]; omega) (by unfold maxLen; omega) (Nat.le_refl _) ?_)
 intro W2 hown hgrow
 have hb : Below W1.heap.size W1 W2 := (Below.refl _ _).grown hgrow (Nat.le_refl _) (fun k h => by cases h)
 rw [made32 n HN.out] at hown
 have AK : Hid (Ar W2 W1.heap.size (32 * n) (List.map (Value.int .u8) (kz8 T n 0))) := own_ar hown (Nat.mul_comm _ _)
 replace Abt := hidp (Abt.out.later hb)
 replace HB := hidp (HB.out.trans (hb.mono HB.out.size))
 obtain ⟨g, hgg⟩ : ∃ q, q = W1.heap.size := ⟨_, rfl⟩
 rw [← hgg] at AK kbt ⊢
 have kg : w.heap.size ≤ g := by
  rw [hgg]
  exact kW1
 clear hown hgrow hb hgg hz0 hz1 hz2 hi
 go_wp2
 go_loopw [9, 25] (fun bv i wr => ∃ (k : Nat) (ab : Option Addr) (nb cb : Nat), k ≤ n ∧ i = .int .i64 k ∧ bv = .slice ab nb cb ∧ Hid (Rd wr ab nb cb (ky8 T k)) ∧ Hid (Ar wr g (32 * n) (List.map (Value.int .u8) (kz8 T n k))) ∧ Hid (Ar wr bt 32 (List.map (Value.int .u8) T)) ∧ Hid (Below w.heap.size w wr)) (fun _ i _ => n - (intOf i).toNat)
 case atStart => exact ⟨0, none, 0, 0, Nat.zero_le _, rfl, rfl, Rd.nil _ none 0 (fun _ => rfl), AK, Abt, HB⟩
 case round =>
  clear AK Abt HB
  obtain ⟨k, ab, nb, cb, hk, rfl, rfl, HRB, AK, Abt, HB⟩ := hrel
  by_cases hlt : k < n
  ·have c1 : (k : Int) < n := by omega
   have hw8 : IntKind.u8.wrap ((k : Int) + 1) = (k : Int) + 1 := by rw [IntKind.wrap_u8]; omega
   have hnb : (ky8 T k).length = nb := HRB.out.hlen
   have hkyl : (ky8 T k).length ≤ 32 := by cases k with | zero => exact Nat.zero_le _ | succ k => exact Nat.le_of_eq (ky8_bn T k).len
   have hb2 := bel2 wr (.cells #[.int .u8 ((k : Int) + 1)] 5) (.cells #[.slice ab nb cb, .slice (some ⟨wr.heap.size, 0, none⟩) 1 1] 28)
   have Y2 : Hid (RdL ((wr.alloc (.cells #[.int .u8 ((k : Int) + 1)] 5)).alloc (.cells #[.slice ab nb cb, .slice (some ⟨wr.heap.size, 0, none⟩) 1 1] 28)) (some ⟨wr.heap.size + 1, 0, none⟩) 2 [ky8 T k, [(k : Int) + 1]]) := by
    have := RdL.two (wr.alloc (.cells #[.int .u8 ((k : Int) + 1)] 5)) ab nb cb (ky8 T k) (some ⟨wr.heap.size, 0, none⟩) 1 1 [(k : Int) + 1] 28 (HRB.out.below (bel1 wr (.cells #[.int .u8 ((k : Int) + 1)] 5))) (rd_one wr ((k : Int) + 1) (by omega) 5)
    simpa [Hid] using this
   have AK2 : Hid (Ar ((wr.alloc (.cells #[.int .u8 ((k : Int) + 1)] 5)).alloc (.cells #[.slice ab nb cb, .slice (some ⟨wr.heap.size, 0, none⟩) 1 1] 28)) g (32 * n) (List.map (Value.int .u8) (kz8 T n k))) := AK.out.later hb2
   have Abt2 : Hid (Ar ((wr.alloc (.cells #[.int .u8 ((k : Int) + 1)] 5)).alloc (.cells #[.slice ab nb cb, .slice (some ⟨wr.heap.size, 0, none⟩) 1 1] 28)) bt 32 (List.map (Value.int .u8) T)) := Abt.out.later hb2
   have HB2 : Hid (Below w.heap.size w ((wr.alloc (.cells #[.int .u8 ((k : Int) + 1)] 5)).alloc (.cells #[.slice ab nb cb, .slice (some ⟨wr.heap.size, 0, none⟩) 1 1] 28))) := HB.out.trans (hb2.mono HB.out.size)
   have HRT : Hid (Rd ((wr.alloc (.cells #[.int .u8 ((k : Int) + 1)] 5)).alloc (.cells #[.slice ab nb cb, .slice (some ⟨wr.heap.size, 0, none⟩) 1 1] 28)) (some ⟨bt, 0, none⟩) 32 32 T) := Abt2.out.rd_all HTN.out.byt 32 (by decide)
   clear hb2
   go_wp2_with fail
   refine (mac_c (some ⟨bt, 0, none⟩) 32 32 T (some ⟨wr.heap.size + 1, 0, none⟩) 2 2 [ky8 T k, [(k : Int) + 1]] _ HRT.out Y2.out (HG.out.later HB2.out) (by decide) (by decide) (by simp only [List.flatten_cons, List.flatten_nil, List.append_nil, List.length_append, List.length_cons, List.length_nil]; omega)).mono ?_
   rintro e V1 ⟨S, rfl, HS, hb⟩
   replace HS : Hid (S = ky8 T (k + 1)) := by have := HS.out; rwa [List.flatten_cons, List.flatten_cons, List.flatten_nil, List.append_nil] at this
   have hSn : Bn 32 S := by rw [HS.out]; exact ky8_bn _ _
   replace AK : Hid (Ar V1 g (32 * n) (List.map (Value.int .u8) (kz8 T n k))) := AK2.out.later hb
   replace Abt : Hid (Ar V1 bt 32 (List.map (Value.int .u8) T)) := Abt2.out.later hb
   replace HB : Hid (Below w.heap.size w V1) := HB2.out.trans (hb.mono HB2.out.size)
   clear hb HRT Abt2 AK2 HB2 Y2 HRB
   obtain ⟨hlenS, honeS, hiS⟩ := bn32_cells hSn
   have e32 : 32 * k = k * 32 := Nat.mul_comm _ _
   have AN : Hid (Ar (V1.setCells g (k * 32) (List.map (Value.int .u8) S)) g (32 * n) (List.map (Value.int .u8) (kz8 T n (k + 1)))) := by
    have := AK.out.part (32 * k) (List.map (Value.int .u8) S) (by rw [hlenS]; omega)
    rw [hlenS, ← List.map_take, ← List.map_drop, ← List.map_append, ← List.map_append, HS.out, kz8_succ T n k hlt] at this
    unfold Hid
    rw [HS.out, ← e32]
    exact this
   have HthK : Hid (V1.there g (k * 32) 32) := there_part AK.out.all (k * 32) 32 (by omega)
   obtain ⟨cs, hcs⟩ : ∃ cs, cs = (List.map (Value.int .u8) S) := ⟨_, rfl⟩
   rw [← hcs] at hlenS honeS hiS AN ⊢
   clear hcs e32
   have Abt' : Hid (Ar (V1.setCells g (k * 32) cs) bt 32 (List.map (Value.int .u8) T)) := Ar.else_cells (by omega) cs (k * 32) Abt.out
   have HB' : Hid (Below w.heap.size w (V1.setCells g (k * 32) cs)) := below_setCells _ kg _ _ _ HB.out
   have HRN : Hid (Rd (V1.setCells g (k * 32) cs) (some ⟨g, k * 32, none⟩) 32 32 (ky8 T (k + 1))) := by
    have := AN.out.rd (kz8_byt T n (k + 1)) (k * 32) 32 32 (by omega) (Nat.le_refl _)
    rw [Nat.mul_comm k 32, kz8_at, Nat.mul_comm 32 k] at this
    exact this
   have hth := HthK.out
   clear Abt AK HB HthK
   go_upto_region 10 with (refine wpList_store_mid rfl 33 (.tmp 38) (.tmp 37) rfl g (k * 32) cs.toArray rfl rfl (by simpa [hlenS] using hth) (by simpa using hiS) (all_oneCell_toArray honeS) ?_)
   obtain ⟨V2, hV2⟩ : ∃ V, V = V1.setCells g (k * 32) cs := ⟨_, rfl⟩
   rw [← hV2] at AN Abt' HB' HRN ⊢
   clear hV2 hth hlenS honeS hiS
   go_wp2
   go_roundw
   case rel => exact ⟨k + 1, some ⟨g, k * 32, none⟩, 32, 32, by omega, by go_num, rfl, HRN, AN, Abt', HB'⟩
   case measure => simp [intOf]; omega
  ·have e : k = n := by omega
   subst e
   rw [kz8_all] at AK
   go_wp2
   go_ret
   exact ⟨g, rfl, ⟨kl8_len _ _, by rw [← HT.out]; exact kl8_bn _ _, fun _ => ⟨g, rfl, by rw [← HT.out]; exact AK.out.rng⟩⟩, HB.out⟩
end Go.Proofs.YtmibjgkakolhiaaGreatDoor
/-
 Derive of two and of three keys, key by key. No statement of the seat is proved here.
-/
namespace Go.Proofs.YtmibjgkakolhiaaGreatDoor
open Go.RowKit

set_option maxRecDepth 8000 in
theorem two_of {u : World} {g : Nat} {T : List Int} (h : RdA u (some ⟨g, 0, none⟩) 2 (kl8 T 2)) : u.rangeAt g 0 (List.map (Value.int .u8) (ky8 T 1)) ∧ u.rangeAt g 32 (List.map (Value.int .u8) (ky8 T 2)) := ⟨h.at 0 (by decide), h.at 1 (by decide)⟩
set_option maxRecDepth 8000 in
theorem three_of {u : World} {g : Nat} {T : List Int} (h : RdA u (some ⟨g, 0, none⟩) 3 (kl8 T 3)) : u.rangeAt g 0 (List.map (Value.int .u8) (ky8 T 1)) ∧ u.rangeAt g 32 (List.map (Value.int .u8) (ky8 T 2)) ∧ u.rangeAt g 64 (List.map (Value.int .u8) (ky8 T 3)) := ⟨h.at 0 (by decide), h.at 1 (by decide), h.at 2 (by decide)⟩
set_option maxRecDepth 8000 in
theorem derive2_l (chain : List Int) (a : Option Addr) (len cap : Nat) (input : List Int) (hc : Bn 32 chain) (w : World) (hr : Rd w a len cap input) (hg : Gb w) (hT : 64 + len ≤ 4611686018427387904) :
  Calls Tryz.prog 25 #[(.agg (List.map (Value.int .u8) chain).toArray), .slice a len cap, .int .i64 2] w fun e w' => ∃ g A B, e = .returned (.slice (some ⟨g, 0, none⟩) 2 2) ∧ Hid (A = ky8 (hm8 chain input) 1) ∧ Hid (B = ky8 (hm8 chain input) 2) ∧ Hid (w'.rangeAt g 0 (List.map (Value.int .u8) A)) ∧ Hid (w'.rangeAt g 32 (List.map (Value.int .u8) B)) ∧ Below w.heap.size w w' :=
 (derive_yes chain a len cap input 2 hc (.inl rfl) w hr hg hT).mono fun _ _ ⟨g, h, hR, hb⟩ => ⟨g, _, _, h, rfl, rfl, (two_of hR.out).1, (two_of hR.out).2, hb⟩
set_option maxRecDepth 8000 in
theorem derive3_l (chain : List Int) (a : Option Addr) (len cap : Nat) (input : List Int) (hc : Bn 32 chain) (w : World) (hr : Rd w a len cap input) (hg : Gb w) (hT : 64 + len ≤ 4611686018427387904) :
  Calls Tryz.prog 25 #[(.agg (List.map (Value.int .u8) chain).toArray), .slice a len cap, .int .i64 3] w fun e w' => ∃ g A B C, e = .returned (.slice (some ⟨g, 0, none⟩) 3 3) ∧ Hid (A = ky8 (hm8 chain input) 1) ∧ Hid (B = ky8 (hm8 chain input) 2) ∧ Hid (C = ky8 (hm8 chain input) 3) ∧ Hid (w'.rangeAt g 0 (List.map (Value.int .u8) A)) ∧ Hid (w'.rangeAt g 32 (List.map (Value.int .u8) B)) ∧ Hid (w'.rangeAt g 64 (List.map (Value.int .u8) C)) ∧ Below w.heap.size w w' :=
 (derive_yes chain a len cap input 3 hc (.inr rfl) w hr hg hT).mono fun _ _ ⟨g, h, hR, hb⟩ => ⟨g, _, _, _, h, rfl, rfl, rfl, (three_of hR.out).1, (three_of hR.out).2.1, (three_of hR.out).2.2, hb⟩
end Go.Proofs.YtmibjgkakolhiaaGreatDoor
/-
 What a State's MixKey and Split do. No statement of the seat is proved here.
-/
namespace Go.Proofs.YtmibjgkakolhiaaGreatDoor
open Go.RowKit

set_option maxRecDepth 8000 in
set_option maxHeartbeats 4000000 in
theorem mixkey10_c (b : Nat) (k : List Int) (h : Bool) (n : Int) (H C : List Int) (a : Option Addr) (len cap : Nat) (x : List Int) (w : World) (hs : My w b k h n H C) (hr : Rd w a len cap x) (hg : Gb w) (hm : len ≤ 281474976710656) :
  Calls Tryz.prog 8 #[.pointer (some ⟨b, 0, none⟩), .slice a len cap] w fun e w' => ∃ K C', e = .returned (.tuple #[]) ∧ Hid (C' = ky8 (hm8 C x) 1) ∧ Hid (K = ky8 (hm8 C x) 2) ∧ Hid (My w' b K true 0 H C') ∧ ExtB b w w' := by
 have HS : Hid (My w b k h n H C) := hs
 have HG : Hid (Gb w) := hg
 have HR : Hid (Rd w a len cap x) := hr
 have hRC := hs.co.rng
 obtain ⟨_, _, hiC⟩ := bn32_cells hs.bc
 clear hs hr hg
 go_enter Tryz.func8, Tryz.ntmps8
 go_wp2_with (refine wpList_load_mid rfl 33 (.tmp 7) rfl b 66 rfl (List.map (Value.int .u8) C) _ hRC Tryz.underlying33 rfl hiC ?_)
 clear hRC hiC
 refine (derive2_l C a len cap x HS.out.bc _ HR.out HG.out (by omega)).mono ?_
 rintro e V ⟨g, A, B, rfl, HA, HBB, RA, RB, hb⟩
 replace HS := hidp (HS.out.later hb)
 have HE : Hid (ExtB b w V) := extb_of hb
 have HAn : Hid (Bn 32 A) := by unfold Hid; rw [HA.out]; exact ky8_bn _ 0
 have HBn : Hid (Bn 32 B) := by unfold Hid; rw [HBB.out]; exact ky8_bn _ 1
 have hgb : g ≠ b := HS.out.far HBn.out RB.out
 clear hb HR HG
 obtain ⟨hlen', hone, hi⟩ := bn32_cells HAn.out
 have hR := RA.out
 obtain ⟨cs, hcs⟩ : ∃ cs, cs = (List.map (Value.int .u8) A) := ⟨_, rfl⟩
 have HCS : Hid (cs = (List.map (Value.int .u8) A)) := hcs
 rw [← hcs] at hlen' hone hi hR
 clear hcs RA
 have hth := HS.out.co.all
 go_upto_region 2 with (first
  | (refine wpList_load_mid rfl 33 (.tmp 13) rfl g 0 rfl cs _ hR Tryz.underlying33 rfl hi ?_)
  | (refine wpList_store_mid rfl 33 (.tmp 16) (.tmp 14) rfl b 66 cs.toArray rfl rfl (by simpa [hlen'] using hth) (by simpa using hi) (all_oneCell_toArray hone) ?_))
 have hx : ExtB b V (V.setCells b 66 cs) := extB_setCells _ _ _ (ExtB.refl _ _)
 replace RB : Hid ((V.setCells b 66 cs).rangeAt g 32 (List.map (Value.int .u8) B)) := fun j v hv => hx.cell hgb (RB.out j v hv)
 replace HE : Hid (ExtB b w (V.setCells b 66 cs)) := HE.out.comp hx
 replace HS : Hid (My (V.setCells b 66 cs) b k h n H A) := by unfold Hid; rw [HCS.out]; exact HS.out.setC HAn.out
 obtain ⟨W2, hW2⟩ : ∃ W, W = V.setCells b 66 cs := ⟨_, rfl⟩
 rw [← hW2] at RB HE HS ⊢
 clear hW2 hx hth hR hlen' hone hi HCS
 obtain ⟨_, _, hiB⟩ := bn32_cells HBn.out
 go_upto_region 2 with fail
 refine wp_region_noPanic ?_
 refine wp_region_held_drew (S := ExtB b W2) (by kernel_rfl) (ExtB.refl b W2).drew (fun hH => ?_)
 change wpAnyH _ _ _ _ _ _ #[false, false, false, false, false, false, false] _ _
 refine tk 0 ?_
 try simp only [Act.put, List.setIfInBounds_toArray, List.set_cons_zero, List.set_cons_succ]
 refine tk 1 ?_
 try simp only [Act.put, List.setIfInBounds_toArray, List.set_cons_zero, List.set_cons_succ]
 refine tk 2 ?_
 try simp only [Act.put, List.setIfInBounds_toArray, List.set_cons_zero, List.set_cons_succ]
 refine tk 3 ?_
 try simp only [Act.put, List.setIfInBounds_toArray, List.set_cons_zero, List.set_cons_succ]
 refine tk 4 ?_
 try simp only [Act.put, List.setIfInBounds_toArray, List.set_cons_zero, List.set_cons_succ]
 refine tkl 5 (.agg (List.map (Value.int .u8) B).toArray) ?_ (hy := by exact yieldsIf_load_mid (by rfl) 33 (.tmp 21) rfl g 32 rfl (List.map (Value.int .u8) B) _ (fun u hu j v hv => ExtB.cell hu hgb (RB.out j v hv)) Tryz.underlying33 rfl hiB)
 try simp only [Act.put, List.setIfInBounds_toArray, List.set_cons_zero, List.set_cons_succ]
 refine rdy 6 (fun K hK => ?_)
 go_simp
 refine (init9_o b 0 k h n B HBn.out _ HS.out.drew.sy).mono ?_
 rintro e V3 ⟨rfl, HT, hx⟩
 refine hK.out _ _ ((ExtB.refl b W2).drew.comp hx.ext) (fun hH' => ?_)
 clear hK K hH; have hH := hH'; clear hH'; try simp only [List.setIfInBounds_toArray, List.set]
 refine wpAnyH_done (by kernel_rfl) ?_ _
 refine NoPanic.normal ?_
 replace HS := hidp (HS.out.drew.cip HT.out hx)
 replace HE : Hid (ExtB b w V3) := HE.out.comp hH
 clear HT hx RB hiB hH
 go_wp2
 go_end0
 exact ⟨B, A, rfl, HA, HBB, HS, HE.out⟩
set_option maxRecDepth 8000 in
set_option maxHeartbeats 2000000 in
theorem withkey_c (key : List Int) (hk : Bn 32 key) (w : World) :
  Calls Tryz.prog 33 #[(.agg (List.map (Value.int .u8) key).toArray)] w fun e w' => ∃ c, e = .returned (.pointer (some ⟨c, 0, none⟩)) ∧ w.heap.size ≤ c ∧ Hid (Sx w' c key true 0) ∧ Below w.heap.size w w' := by
 have HK : Hid (Bn 32 key) := hk
 clear hk
 obtain ⟨_, _, hiK⟩ := bn32_cells HK.out
 go_enter Tryz.func33, Tryz.ntmps33
 go_upto_region 1 with fail
 have AK : Hid (Ar (w.alloc (.cells (List.map (Value.int .u8) key).toArray 33)) w.heap.size 32 (List.map (Value.int .u8) key)) := ar_box w _ 32 HK.out.map_len _
 have HB : Hid (Below w.heap.size w (w.alloc (.cells (List.map (Value.int .u8) key).toArray 33))) := bel1 _ _
 obtain ⟨W0, hW0⟩ : ∃ W, W = (w.alloc (.cells (List.map (Value.int .u8) key).toArray 33)) := ⟨_, rfl⟩
 obtain ⟨q1, hq1⟩ : ∃ q, q = w.heap.size := ⟨_, rfl⟩
 rw [← hW0] at AK HB ⊢
 rw [← hq1] at AK ⊢
 clear hW0 hq1
 go_wp2_with fail
 refine (new9_c _).mono ?_
 rintro e V ⟨rfl, HS, hb⟩
 obtain ⟨c, hc⟩ : ∃ q, q = W0.heap.size := ⟨_, rfl⟩
 rw [← hc] at HS ⊢
 have kc : w.heap.size ≤ c := by rw [hc]; exact HB.out.size
 replace AK := hidp (AK.out.later hb)
 replace HB := hidp (HB.out.trans (hb.mono HB.out.size))
 clear hb hc
 go_wp2_with (refine wpList_load_mid rfl 33 (.tmp 1) rfl q1 0 rfl (List.map (Value.int .u8) key) _ AK.out.rng Tryz.underlying33 rfl hiK ?_)
 refine (init9_c c z9l false 0 key HK.out _ HS.out).mono ?_
 rintro e V2 ⟨rfl, HS2, hx⟩
 replace HB : Hid (Below w.heap.size w V2) := hx.below HB.out kc
 clear hx HS AK hiK
 go_wp2
 go_ret
 exact ⟨c, rfl, kc, HS2, HB.out⟩
set_option maxRecDepth 8000 in
set_option maxHeartbeats 4000000 in
theorem split10_c (b : Nat) (k : List Int) (h : Bool) (n : Int) (H C : List Int) (w : World) (hs : My w b k h n H C) (hg : Gb w) :
  Calls Tryz.prog 15 #[.pointer (some ⟨b, 0, none⟩)] w fun e w' => ∃ c d A B, e = .returned (.tuple #[.pointer (some ⟨c, 0, none⟩), .pointer (some ⟨d, 0, none⟩)]) ∧ Hid (A = ky8 (hm8 C []) 1) ∧ Hid (B = ky8 (hm8 C []) 2) ∧ Hid (Sx w' c A true 0) ∧ Hid (Sx w' d B true 0) ∧ w.heap.size ≤ c ∧ w.heap.size ≤ d ∧ c ≠ d ∧ Below w.heap.size w w' := by
 have HS : Hid (My w b k h n H C) := hs
 have HG : Hid (Gb w) := hg
 have hRC := hs.co.rng
 obtain ⟨_, _, hiC⟩ := bn32_cells hs.bc
 clear hs hg
 go_enter Tryz.func15, Tryz.ntmps15
 go_wp2_with (refine wpList_load_mid rfl 33 (.tmp 7) rfl b 66 rfl (List.map (Value.int .u8) C) _ hRC Tryz.underlying33 rfl hiC ?_)
 clear hRC hiC
 refine (derive2_l C none 0 0 [] HS.out.bc _ (Rd.nil _ _ _ (fun _ => rfl)) HG.out (by decide)).mono ?_
 rintro e V ⟨g, A, B, rfl, HA, HBB, RA, RB, hb⟩
 have HB : Hid (Below w.heap.size w V) := hb
 have HAn : Hid (Bn 32 A) := by unfold Hid; rw [HA.out]; exact ky8_bn _ 0
 have HBn : Hid (Bn 32 B) := by unfold Hid; rw [HBB.out]; exact ky8_bn _ 1
 obtain ⟨_, _, hiA⟩ := bn32_cells HAn.out
 obtain ⟨_, _, hiB⟩ := bn32_cells HBn.out
 clear hb HS HG
 go_upto_region 2 with fail
 refine wp_region_noPanic ?_
 refine wp_region_held_drew (S := Ext V) (by kernel_rfl) (Ext.refl _).drew (fun hH => ?_)
 change wpAnyH _ _ _ _ _ _ #[false, false, false, false, false, false, false, false, false, false] _ _
 refine tk 0 ?_
 try simp only [Act.put, List.setIfInBounds_toArray, List.set_cons_zero, List.set_cons_succ]
 refine tk 1 ?_
 try simp only [Act.put, List.setIfInBounds_toArray, List.set_cons_zero, List.set_cons_succ]
 refine tkl 2 (.agg (List.map (Value.int .u8) A).toArray) ?_ (hy := by exact yieldsIf_load_mid (by rfl) 33 (.tmp 11) rfl g 0 rfl (List.map (Value.int .u8) A) _ (fun u hu => range_later hu RA.out) Tryz.underlying33 rfl hiA)
 try simp only [Act.put, List.setIfInBounds_toArray, List.set_cons_zero, List.set_cons_succ]
 refine tk 4 ?_
 try simp only [Act.put, List.setIfInBounds_toArray, List.set_cons_zero, List.set_cons_succ]
 refine tk 5 ?_
 try simp only [Act.put, List.setIfInBounds_toArray, List.set_cons_zero, List.set_cons_succ]
 refine tkl 6 (.agg (List.map (Value.int .u8) B).toArray) ?_ (hy := by exact yieldsIf_load_mid (by rfl) 33 (.tmp 15) rfl g 32 rfl (List.map (Value.int .u8) B) _ (fun u hu => range_later hu RB.out) Tryz.underlying33 rfl hiB)
 try simp only [Act.put, List.setIfInBounds_toArray, List.set_cons_zero, List.set_cons_succ]
 refine rdy 3 (fun K hK => ?_)
 go_simp
 refine (withkey_c A HAn.out _).mono ?_
 rintro e V1 ⟨c, rfl, kc, HSc, hb⟩
 have kcV : V.heap.size ≤ c := Nat.le_trans hH.size kc
 clear kc
 refine hK.out _ _ (hH.trans hb) (fun hH' => ?_)
 clear hK K hH; have hH := hH'; clear hH'; try simp only [List.setIfInBounds_toArray, List.set]
 clear hb
 refine rdy 7 (fun K hK => ?_)
 go_simp
 have kcl := HSc.out.lt
 refine (withkey_c B HBn.out _).mono ?_
 rintro e V2 ⟨d, rfl, kd, HSd, hb⟩
 replace HSc := hidp (HSc.out.later hb)
 have kcd : c ≠ d := by omega
 have kdV : V.heap.size ≤ d := by omega
 clear kd kcl
 refine hK.out _ _ (hH.trans hb) (fun hH' => ?_)
 clear hK K hH; have hH := hH'; clear hH'; try simp only [List.setIfInBounds_toArray, List.set]
 clear hb
 refine tk 8 ?_
 try simp only [Act.put, List.setIfInBounds_toArray, List.set_cons_zero, List.set_cons_succ]
 refine tk 9 ?_
 try simp only [Act.put, List.setIfInBounds_toArray, List.set_cons_zero, List.set_cons_succ]
 refine wpAnyH_done (by kernel_rfl) ?_ _
 refine NoPanic.normal ?_
 have hb2 : Below V.heap.size V _ := hH
 have kc : w.heap.size ≤ c := Nat.le_trans HB.out.size kcV
 have kd : w.heap.size ≤ d := Nat.le_trans HB.out.size kdV
 replace HB := hidp (HB.out.trans (hb2.mono HB.out.size))
 clear hH hb2 RA RB hiA hiB
 go_wp2
 go_ret2
 exact ⟨c, d, A, B, rfl, HA, HBB, HSc, HSd, kc, kd, kcd, HB.out⟩
end Go.Proofs.YtmibjgkakolhiaaGreatDoor
