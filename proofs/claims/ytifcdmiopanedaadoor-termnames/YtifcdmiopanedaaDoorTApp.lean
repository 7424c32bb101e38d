/-
  What term's appendName and appendParts write. No statement of the seat is proved here.
-/
import Derived.Test.YtifcdmiopanedaaDoorTI
import Derived.Test.YtifcdmiopanedaaDoorTAs
import Derived.Test.YtifcdmiopanedaaDoorTName
import Derived.Deep.RegionHeld3
namespace Go.Proofs.YtifcdmiopanedaaDoor
open Go.RowKit
set_option linter.unusedVariables false
set_option linter.unusedSimpArgs false

/-- appendName writes l for v. -/
def Wrote (v : Value) (l : List UInt8) : Prop := ∀ (B : Nat) (sv : Value) (xs : List UInt8) (w : World), Nm B w sv xs → B ≤ w.heap.size → xs.length + l.length + 64 ≤ 140737488355328 → Tab B w → Calls Tryd.prog 27 #[sv, v] w fun e u => ∃ v', e = .returned v' ∧ Nm B u v' (xs ++ l) ∧ Fr B w u
def sep (k : Nat) : UInt8 := if k = 0 then 40 else 44
theorem sep_zero : sep 0 = 40 := rfl
theorem sep_succ (k : Nat) : sep (k + 1) = 44 := rfl
def pre (ls : List (List UInt8)) : Nat → List UInt8
  | 0 => []
  | k + 1 => pre ls k ++ (sep k :: ls[k]?.getD [])
theorem pre_succ_len (ls : List (List UInt8)) (k : Nat) : (pre ls (k + 1)).length = (pre ls k).length + (1 + (ls[k]?.getD []).length) := by
  show (pre ls k ++ (sep k :: ls[k]?.getD [])).length = _
  rw [List.length_append, List.length_cons]; omega
theorem pre_le (ls : List (List UInt8)) {k n : Nat} (h : k ≤ n) : (pre ls k).length ≤ (pre ls n).length := by
  induction n with
  | zero => rw [Nat.le_zero.1 h]; exact Nat.le_refl _
  | succ n ih =>
    by_cases e : k = n + 1
    · rw [e]; exact Nat.le_refl _
    · have := ih (by omega)
      rw [pre_succ_len]; omega
set_option maxRecDepth 8000 in
set_option maxHeartbeats 4000000 in
theorem parts_c (vs : List Value) (ls : List (List UInt8)) (n : Nat) (hn : vs.length = n) (hl : ls.length = n) (hv : ∀ (j : Nat) (v : Value) (l : List UInt8), vs[j]? = some v → ls[j]? = some l → Wrote v l) (hs : n ≤ 1000)
    (B q : Nat) (sv : Value) (xs : List UInt8) (w : World) (hown : Nm B w sv xs) (hB : B ≤ w.heap.size) (hlim : xs.length + (pre ls n).length + 65 ≤ 140737488355328) (ht : Tab B w) (hb : Blk q 29 vs w) :
    Calls Tryd.prog 30 #[sv, .slice (some ⟨q, 0, none⟩) n n] w fun e u => ∃ v', e = .returned v' ∧ Nm B u v' (xs ++ pre ls n ++ [41]) ∧ Fr B w u := by
  have H0 : Hid (Nm B w sv (xs ++ pre ls 0)) := by unfold Hid; rw [show pre ls 0 = [] from rfl, List.append_nil]; exact hown
  have HF : Hid (Fr B w w) := Fr.refl B w
  have HV : Hid (∀ (j : Nat) (v : Value) (l : List UInt8), vs[j]? = some v → ls[j]? = some l → Wrote v l) := hv
  have HT : Hid (Tab B w) := ht
  have HB : Hid (Blk q 29 vs w) := hb
  have HL : Hid (vs.length = n ∧ ls.length = n) := ⟨hn, hl⟩
  have HM : Hid (xs.length + (pre ls n).length + 65 ≤ 140737488355328) := hlim
  have HS : Hid (B ≤ w.heap.size) := hB
  clear hown hv ht hb hn hl hlim hB
  go_enter Tryd.func30, Tryd.ntmps30
  go_wp2
  go_loopw [0, 5, 10] (fun s0 s5 i wr => ∃ k : Nat, k ≤ n ∧ i = .int .i64 k ∧ s5 = .int .u8 (sep k).toNat ∧ Hid (Nm B wr s0 (xs ++ pre ls k)) ∧ Hid (Fr B w wr)) (fun _ _ i _ => n - (intOf i).toNat)
  case atStart => exact ⟨0, Nat.zero_le _, rfl, rfl, H0, HF⟩
  case round =>
    clear H0 HF
    obtain ⟨k, hk, rfl, rfl, HN, HF⟩ := hrel
    by_cases hlt : k < n
    · have c1 : (k : Int) < n := by omega
      have hkv : k < vs.length := by rw [HL.out.1]; exact hlt
      have hkl : k < ls.length := by rw [HL.out.2]; exact hlt
      obtain ⟨v, hvk⟩ : ∃ v, vs[k]? = some v := ⟨_, List.getElem?_eq_getElem hkv⟩
      obtain ⟨l, hlk⟩ : ∃ l, ls[k]? = some l := ⟨_, List.getElem?_eq_getElem hkl⟩
      have hW : Hid (Wrote v l) := HV.out k v l hvk hlk
      have hcell := (HB.out.fr (by decide) HF.out).cell hvk
      have hlen : (xs ++ pre ls (k + 1)).length + 65 ≤ 140737488355328 := by
        have h1 := pre_le ls (show k + 1 ≤ n by omega)
        have h2 := HM.out
        rw [List.length_append]; omega
      have hpre : Hid (pre ls (k + 1) = pre ls k ++ (sep k :: l)) := by
        show pre ls k ++ (sep k :: ls[k]?.getD []) = _
        rw [hlk]; rfl
      have hlen2 : Hid ((xs ++ pre ls k ++ [sep k]).length + l.length + 64 ≤ 140737488355328) := by
        rw [hpre.out] at hlen
        unfold Hid
        simp only [List.length_append, List.length_cons, List.length_nil] at hlen ⊢
        omega
      clear hvk hlk hkv hkl hlen
      go_wp2_with (at_builtin; refine wpList_ab B _ _ (sep k) _ HN.out (HF.out.le HS.out) (by have := hlen2.out; simp only [List.length_append, List.length_cons, List.length_nil] at this ⊢; omega) (by rfl) _ _ (by rfl) (by rfl) (by rfl) ?_; intro v1 u1 K1 K2; refine Hid.out ?_)
      refine Lib.hid ?_
      have K1' : Hid (Nm B u1 v1 (xs ++ pre ls k ++ [sep k])) := K1
      have K2' : Hid (Fr B w u1) := HF.out.trans K2
      clear K1 K2 HN HF hcell
      go_wp2_with fail
      refine (hW.out B _ _ _ K1'.out (K2'.out.le HS.out) hlen2.out (HT.out.on K2'.out.bel)).mono ?_
      rintro e u2 ⟨v2, rfl, K3, K4⟩
      have K3' : Hid (Nm B u2 v2 (xs ++ pre ls (k + 1))) := by
        rw [hpre.out]
        have e : xs ++ (pre ls k ++ sep k :: l) = xs ++ pre ls k ++ [sep k] ++ l := by simp
        rw [e]; exact K3
      have K4' : Hid (Fr B w u2) := K2'.out.trans K4
      clear K3 K4 K1' K2' hW hlen2 hpre
      go_wp2
      go_roundw
      case rel => exact ⟨k + 1, by omega, by go_num, rfl, K3', K4'⟩
      case measure => simp [intOf]; omega
    · have e : k = n := by omega
      subst e
      go_wp2_with (at_builtin; refine wpList_ab B _ _ 41 _ HN.out (HF.out.le HS.out) (by have := HM.out; rw [List.length_append]; omega) (by rfl) _ _ (by rfl) (by rfl) (by rfl) ?_; intro v1 u1 K1 K2; refine Hid.out ?_)
      refine Lib.hid ?_
      have K1' : Hid (Nm B u1 v1 (xs ++ pre ls k ++ [41])) := K1
      have K2' : Hid (Fr B w u1) := HF.out.trans K2
      clear K1 K2
      go_wp2
      go_ret
      exact ⟨v1, rfl, K1'.out, K2'.out⟩
set_option maxRecDepth 8000 in
set_option maxHeartbeats 4000000 in
theorem wrote_nil : Wrote (.nilIface) [63] := by
  intro B sv xs w hown hB hlim ht
  have HN : Hid (Nm B w sv xs) := hown
  have HF : Hid (Fr B w w) := Fr.refl B w
  have HS : Hid (B ≤ w.heap.size) := hB
  have HM : Hid (xs.length + 1 + 64 ≤ 140737488355328) := hlim
  clear hown hB hlim ht
  go_enter Tryd.func27, Tryd.ntmps27
  go_wp2_with (at_builtin; refine wpList_ab B _ _ 63 _ HN.out (HF.out.le HS.out) (by have := HM.out; omega) (by rfl) _ _ (by rfl) (by rfl) (by rfl) ?_; intro v1 u1 K1 K2; refine Hid.out ?_)
  refine Lib.hid ?_
  replace HN : Hid (Nm B u1 v1 (xs ++ [63])) := K1
  replace HF : Hid (Fr B w u1) := HF.out.trans K2
  clear K1 K2
  go_wp2
  go_ret
  exact ⟨v1, rfl, HN.out, HF.out⟩
set_option maxRecDepth 8000 in
set_option maxHeartbeats 4000000 in
theorem wrote_Empty : Wrote (.iface 25 (.agg #[])) ([95]) := by
  intro B sv xs w hown hB hlim ht
  have fEmpty := as_Empty_Empty (.agg #[])
  have HT : Hid (Tab B w) := ht
  have HM : Hid (xs.length + ([95]).length + 64 ≤ 140737488355328) := hlim
  have HS : Hid (B ≤ w.heap.size) := hB
  have HN : Hid (Nm B w sv xs) := hown
  clear hown hlim ht hB
  have HQ0 : Hid (Blk w.heap.size 25 [] (w.alloc (.cells #[] 25))) := Blk.new w 25 []
  replace HN : Hid (Nm B (w.alloc (.cells #[] 25)) sv xs) := HN.out.alloc _
  have HF : Hid (Fr B w (w.alloc (.cells #[] 25))) := (Fr.refl B w).alloc HS.out _
  go_enter Tryd.func27, Tryd.ntmps27
  go_upto_region 7 with fail
  obtain ⟨W0, hW0⟩ : ∃ z, z = (w.alloc (.cells #[] 25)) := ⟨_, rfl⟩
  obtain ⟨q, hq⟩ : ∃ z, z = w.heap.size := ⟨_, rfl⟩
  rw [← hW0, ← hq] at HQ0
  rw [← hW0] at HN HF
  rw [← hW0, ← hq]
  clear hW0 hq
  clear fEmpty
  replace HM : Hid (xs.length + 1 + 64 ≤ 140737488355328) := HM.out
  clear HQ0
  go_wp2_with (at_builtin; refine wpList_ab B _ _ 95 _ HN.out (HF.out.le HS.out) (by have := HM.out; omega) (by rfl) _ _ (by rfl) (by rfl) (by rfl) ?_; intro v1 u1 K1 K2; refine Hid.out ?_)
  refine Lib.hid ?_
  replace HN : Hid (Nm B u1 v1 (xs ++ [95])) := K1
  replace HF : Hid (Fr B w u1) := HF.out.trans K2
  clear K1 K2
  go_wp2
  go_ret
  exact ⟨v1, rfl, HN.out, HF.out⟩
set_option maxRecDepth 8000 in
set_option maxHeartbeats 4000000 in
theorem wrote_Atom (n : Int) (n0 : -9223372036854775808 ≤ n) (n1 : n ≤ 9223372036854775807) : Wrote (.iface 27 (.agg #[.int .i64 n])) (97 :: Lib.itoa n) := by
  intro B sv xs w hown hB hlim ht
  have fEmpty := as_Atom_Empty (.agg #[.int .i64 n])
  have fAtom := as_Atom_Atom (.agg #[.int .i64 n])
  have HT : Hid (Tab B w) := ht
  have HM : Hid (xs.length + (97 :: Lib.itoa n).length + 64 ≤ 140737488355328) := hlim
  have HS : Hid (B ≤ w.heap.size) := hB
  have HN : Hid (Nm B w sv xs) := hown
  clear hown hlim ht hB
  have HQ0 : Hid (Blk w.heap.size 27 [.int .i64 n] (w.alloc (.cells #[.int .i64 n] 27))) := Blk.new w 27 [.int .i64 n]
  replace HN : Hid (Nm B (w.alloc (.cells #[.int .i64 n] 27)) sv xs) := HN.out.alloc _
  have HF : Hid (Fr B w (w.alloc (.cells #[.int .i64 n] 27))) := (Fr.refl B w).alloc HS.out _
  go_enter Tryd.func27, Tryd.ntmps27
  go_upto_region 10 with fail
  obtain ⟨W0, hW0⟩ : ∃ z, z = (w.alloc (.cells #[.int .i64 n] 27)) := ⟨_, rfl⟩
  obtain ⟨q, hq⟩ : ∃ z, z = w.heap.size := ⟨_, rfl⟩
  rw [← hW0, ← hq] at HQ0
  rw [← hW0] at HN HF
  rw [← hW0, ← hq]
  clear hW0 hq
  clear fEmpty fAtom
  refine wp_region_noPanic ?_
  refine wp_region_held_drew (S := Blk q 27 [.int .i64 n]) (by kernel_rfl) HQ0.out.drew (fun hH => ?_)
  change wpAnyH _ _ _ _ _ _ #[false, false, false, false, false, false, false] _ _
  refine wpAnyH_take (i := 0) (oi := ?o0a0) (v := ?v0a0) ?h0a0 (by kernel_rfl) ?f0a0 ?r0a0 (fun _ _ _ h => h) (Or.inl ⟨?w0a0, ?y0a0⟩) (by assumption) ?t0a0
  case h0a0 => simp only [List.getElem?_toArray]; rfl
  case f0a0 => kernel_rfl
  case r0a0 => kernel_rfl
  case w0a0 => rfl
  case y0a0 => (intro u hu; (go_simp) <;> with_reducible rfl)
  try simp only [Act.put, List.setIfInBounds_toArray, List.set_cons_zero, List.set_cons_succ]
  refine wpAnyH_take (i := 3) (oi := ?o3a0) (v := ?v3a0) ?h3a0 (by kernel_rfl) ?f3a0 ?r3a0 (fun _ _ _ h => h) (Or.inl ⟨?w3a0, ?y3a0⟩) (by assumption) ?t3a0
  case h3a0 => simp only [List.getElem?_toArray]; rfl
  case f3a0 => kernel_rfl
  case r3a0 => kernel_rfl
  case w3a0 => rfl
  case y3a0 => (intro u hu; (go_simp) <;> with_reducible rfl)
  try simp only [Act.put, List.setIfInBounds_toArray, List.set_cons_zero, List.set_cons_succ]
  refine wpAnyH_take (i := 4) (oi := ?o4a0) (v := ?v4a0) ?h4a0 (by kernel_rfl) ?f4a0 ?r4a0 (fun _ _ _ h => h) (Or.inl ⟨?w4a0, ?y4a0⟩) (by assumption) ?t4a0
  case h4a0 => simp only [List.getElem?_toArray]; rfl
  case f4a0 => kernel_rfl
  case r4a0 => kernel_rfl
  case w4a0 => rfl
  case y4a0 => (intro u hu; (have hx := hu.cell (o := 0) rfl; go_simp) <;> with_reducible rfl)
  try simp only [Act.put, List.setIfInBounds_toArray, List.set_cons_zero, List.set_cons_succ]
  refine wpAnyH_ready (rs := [1]) (by kernel_rfl) (by simp) ?_
  refine AllReadyH.cons (o := ?o1a0) ?h1a0 (fun K hK => ?_) AllReadyH.nil
  case h1a0 => simp only [List.getElem?_toArray]; rfl
  go_simp
  refine hK.out _ _ (hH.alloc _) (fun hH' => ?_)
  clear hK K hH
  have hH := hH'
  clear hH'
  try simp only [List.setIfInBounds_toArray, List.set]
  have hN : Nm B (W0.drew.alloc (.cells #[.int .u8 (97 : UInt8).toNat] 5)) sv xs := HN.out.drew.alloc _
  have hF : Fr B w (W0.drew.alloc (.cells #[.int .u8 (97 : UInt8).toNat] 5)) := HF.out.drew.alloc HS.out _
  have hC := (Blk.new W0.drew 5 [.int .u8 (97 : UInt8).toNat]).cell (o := 0) rfl
  refine wpAnyH_ready (rs := [2]) (by kernel_rfl) (by simp) ?_
  refine AllReadyH.cons (o := ?o2a0) ?h2a0 (fun K hK => ?_) AllReadyH.nil
  case h2a0 => simp only [List.getElem?_toArray]; rfl
  refine step_ab B _ _ 97 _ _ hN (hF.le HS.out) (by have h_ := HM.out; have i1_ := Lib.itoa_length_le 0 (by decide) (by decide); simp only [shN, chN, dgN, bxN, List.length_append, List.length_cons, List.length_nil] at h_ ⊢; omega) hC (by rfl) _ _ (by rfl) (by rfl) (by rfl) ?_
  intro v0a u0a K1 K2
  have hF1 : Fr B w u0a := hF.trans K2
  refine hK.out _ _ (hH.fr (by decide) K2) (fun hH' => ?_)
  clear hK K hH
  have hH := hH'
  clear hH'
  try simp only [List.setIfInBounds_toArray, List.set]
  clear hN hF hC K2
  refine wpAnyH_ready (rs := [5]) (by kernel_rfl) (by simp) ?_
  refine AllReadyH.cons (o := ?o5a0) ?h5a0 (fun K hK => ?_) AllReadyH.nil
  case h5a0 => simp only [List.getElem?_toArray]; rfl
  go_simp
  refine (number_c B n n0 n1 _ _ _ K1 (hF1.le HS.out) (by have h_ := HM.out; have i1_ := Lib.itoa_length_le 0 (by decide) (by decide); simp only [shN, chN, dgN, bxN, List.length_append, List.length_cons, List.length_nil] at h_ ⊢; have it0 := Lib.itoa_length_le n n0 n1; omega) (HT.out.on hF1.bel)).mono ?_
  rintro e u0b ⟨v0b, rfl, K3, K4⟩
  have hF2 : Fr B w u0b := hF1.trans K4
  refine hK.out _ _ (hH.fr (by decide) K4) (fun hH' => ?_)
  clear hK K hH
  have hH := hH'
  clear hH'
  try simp only [List.setIfInBounds_toArray, List.set]
  clear hF1 K1 K4
  refine wpAnyH_take (i := 6) (oi := ?o6a0) (v := ?v6a0) ?h6a0 (by kernel_rfl) ?f6a0 ?r6a0 (fun _ _ _ h => h) (Or.inl ⟨?w6a0, ?y6a0⟩) (by assumption) ?t6a0
  case h6a0 => simp only [List.getElem?_toArray]; rfl
  case f6a0 => kernel_rfl
  case r6a0 => kernel_rfl
  case w6a0 => rfl
  case y6a0 => (intro u hu; (go_simp) <;> with_reducible rfl)
  try simp only [Act.put, List.setIfInBounds_toArray, List.set_cons_zero, List.set_cons_succ]
  refine wpAnyH_done (by kernel_rfl) ?_ _
  refine NoPanic.normal ?_
  have HQ1 : Hid (Blk q 27 [.int .i64 n] u0b) := hH
  have HN : Hid (Nm B u0b v0b (xs ++ [97] ++ Lib.itoa n)) := K3
  have HF : Hid (Fr B w u0b) := hF2
  clear K3 hF2 hH
  go_wp2
  go_ret
  refine ⟨v0b, rfl, ?_, HF.out⟩
  have e_ : xs ++ (97 :: Lib.itoa n) = (xs ++ [97] ++ Lib.itoa n) := by simp [shN, chN, dgN, bxN, pre, sep]
  rw [e_]
  exact HN.out
set_option maxRecDepth 8000 in
set_option maxHeartbeats 4000000 in
theorem wrote_Public (n : Int) (n0 : -9223372036854775808 ≤ n) (n1 : n ≤ 9223372036854775807) : Wrote (.iface 23 (.agg #[.int .i64 n])) (112 :: Lib.itoa n) := by
  intro B sv xs w hown hB hlim ht
  have fEmpty := as_Public_Empty (.agg #[.int .i64 n])
  have fAtom := as_Public_Atom (.agg #[.int .i64 n])
  have fPublic := as_Public_Public (.agg #[.int .i64 n])
  have HT : Hid (Tab B w) := ht
  have HM : Hid (xs.length + (112 :: Lib.itoa n).length + 64 ≤ 140737488355328) := hlim
  have HS : Hid (B ≤ w.heap.size) := hB
  have HN : Hid (Nm B w sv xs) := hown
  clear hown hlim ht hB
  have HQ0 : Hid (Blk w.heap.size 23 [.int .i64 n] (w.alloc (.cells #[.int .i64 n] 23))) := Blk.new w 23 [.int .i64 n]
  replace HN : Hid (Nm B (w.alloc (.cells #[.int .i64 n] 23)) sv xs) := HN.out.alloc _
  have HF : Hid (Fr B w (w.alloc (.cells #[.int .i64 n] 23))) := (Fr.refl B w).alloc HS.out _
  go_enter Tryd.func27, Tryd.ntmps27
  go_upto_region 13 with fail
  obtain ⟨W0, hW0⟩ : ∃ z, z = (w.alloc (.cells #[.int .i64 n] 23)) := ⟨_, rfl⟩
  obtain ⟨q, hq⟩ : ∃ z, z = w.heap.size := ⟨_, rfl⟩
  rw [← hW0, ← hq] at HQ0
  rw [← hW0] at HN HF
  rw [← hW0, ← hq]
  clear hW0 hq
  clear fEmpty fAtom fPublic
  refine wp_region_noPanic ?_
  refine wp_region_held_drew (S := Blk q 23 [.int .i64 n]) (by kernel_rfl) HQ0.out.drew (fun hH => ?_)
  change wpAnyH _ _ _ _ _ _ #[false, false, false, false, false, false, false] _ _
  refine wpAnyH_take (i := 0) (oi := ?o0p0) (v := ?v0p0) ?h0p0 (by kernel_rfl) ?f0p0 ?r0p0 (fun _ _ _ h => h) (Or.inl ⟨?w0p0, ?y0p0⟩) (by assumption) ?t0p0
  case h0p0 => simp only [List.getElem?_toArray]; rfl
  case f0p0 => kernel_rfl
  case r0p0 => kernel_rfl
  case w0p0 => rfl
  case y0p0 => (intro u hu; (go_simp) <;> with_reducible rfl)
  try simp only [Act.put, List.setIfInBounds_toArray, List.set_cons_zero, List.set_cons_succ]
  refine wpAnyH_take (i := 3) (oi := ?o3p0) (v := ?v3p0) ?h3p0 (by kernel_rfl) ?f3p0 ?r3p0 (fun _ _ _ h => h) (Or.inl ⟨?w3p0, ?y3p0⟩) (by assumption) ?t3p0
  case h3p0 => simp only [List.getElem?_toArray]; rfl
  case f3p0 => kernel_rfl
  case r3p0 => kernel_rfl
  case w3p0 => rfl
  case y3p0 => (intro u hu; (go_simp) <;> with_reducible rfl)
  try simp only [Act.put, List.setIfInBounds_toArray, List.set_cons_zero, List.set_cons_succ]
  refine wpAnyH_take (i := 4) (oi := ?o4p0) (v := ?v4p0) ?h4p0 (by kernel_rfl) ?f4p0 ?r4p0 (fun _ _ _ h => h) (Or.inl ⟨?w4p0, ?y4p0⟩) (by assumption) ?t4p0
  case h4p0 => simp only [List.getElem?_toArray]; rfl
  case f4p0 => kernel_rfl
  case r4p0 => kernel_rfl
  case w4p0 => rfl
  case y4p0 => (intro u hu; (have hx := hu.cell (o := 0) rfl; go_simp) <;> with_reducible rfl)
  try simp only [Act.put, List.setIfInBounds_toArray, List.set_cons_zero, List.set_cons_succ]
  refine wpAnyH_ready (rs := [1]) (by kernel_rfl) (by simp) ?_
  refine AllReadyH.cons (o := ?o1p0) ?h1p0 (fun K hK => ?_) AllReadyH.nil
  case h1p0 => simp only [List.getElem?_toArray]; rfl
  go_simp
  refine hK.out _ _ (hH.alloc _) (fun hH' => ?_)
  clear hK K hH
  have hH := hH'
  clear hH'
  try simp only [List.setIfInBounds_toArray, List.set]
  have hN : Nm B (W0.drew.alloc (.cells #[.int .u8 (112 : UInt8).toNat] 5)) sv xs := HN.out.drew.alloc _
  have hF : Fr B w (W0.drew.alloc (.cells #[.int .u8 (112 : UInt8).toNat] 5)) := HF.out.drew.alloc HS.out _
  have hC := (Blk.new W0.drew 5 [.int .u8 (112 : UInt8).toNat]).cell (o := 0) rfl
  refine wpAnyH_ready (rs := [2]) (by kernel_rfl) (by simp) ?_
  refine AllReadyH.cons (o := ?o2p0) ?h2p0 (fun K hK => ?_) AllReadyH.nil
  case h2p0 => simp only [List.getElem?_toArray]; rfl
  refine step_ab B _ _ 112 _ _ hN (hF.le HS.out) (by have h_ := HM.out; have i1_ := Lib.itoa_length_le 0 (by decide) (by decide); simp only [shN, chN, dgN, bxN, List.length_append, List.length_cons, List.length_nil] at h_ ⊢; omega) hC (by rfl) _ _ (by rfl) (by rfl) (by rfl) ?_
  intro v0a u0a K1 K2
  have hF1 : Fr B w u0a := hF.trans K2
  refine hK.out _ _ (hH.fr (by decide) K2) (fun hH' => ?_)
  clear hK K hH
  have hH := hH'
  clear hH'
  try simp only [List.setIfInBounds_toArray, List.set]
  clear hN hF hC K2
  refine wpAnyH_ready (rs := [5]) (by kernel_rfl) (by simp) ?_
  refine AllReadyH.cons (o := ?o5p0) ?h5p0 (fun K hK => ?_) AllReadyH.nil
  case h5p0 => simp only [List.getElem?_toArray]; rfl
  go_simp
  refine (number_c B n n0 n1 _ _ _ K1 (hF1.le HS.out) (by have h_ := HM.out; have i1_ := Lib.itoa_length_le 0 (by decide) (by decide); simp only [shN, chN, dgN, bxN, List.length_append, List.length_cons, List.length_nil] at h_ ⊢; have it0 := Lib.itoa_length_le n n0 n1; omega) (HT.out.on hF1.bel)).mono ?_
  rintro e u0b ⟨v0b, rfl, K3, K4⟩
  have hF2 : Fr B w u0b := hF1.trans K4
  refine hK.out _ _ (hH.fr (by decide) K4) (fun hH' => ?_)
  clear hK K hH
  have hH := hH'
  clear hH'
  try simp only [List.setIfInBounds_toArray, List.set]
  clear hF1 K1 K4
  refine wpAnyH_take (i := 6) (oi := ?o6p0) (v := ?v6p0) ?h6p0 (by kernel_rfl) ?f6p0 ?r6p0 (fun _ _ _ h => h) (Or.inl ⟨?w6p0, ?y6p0⟩) (by assumption) ?t6p0
  case h6p0 => simp only [List.getElem?_toArray]; rfl
  case f6p0 => kernel_rfl
  case r6p0 => kernel_rfl
  case w6p0 => rfl
  case y6p0 => (intro u hu; (go_simp) <;> with_reducible rfl)
  try simp only [Act.put, List.setIfInBounds_toArray, List.set_cons_zero, List.set_cons_succ]
  refine wpAnyH_done (by kernel_rfl) ?_ _
  refine NoPanic.normal ?_
  have HQ1 : Hid (Blk q 23 [.int .i64 n] u0b) := hH
  have HN : Hid (Nm B u0b v0b (xs ++ [112] ++ Lib.itoa n)) := K3
  have HF : Hid (Fr B w u0b) := hF2
  clear K3 hF2 hH
  go_wp2
  go_ret
  refine ⟨v0b, rfl, ?_, HF.out⟩
  have e_ : xs ++ (112 :: Lib.itoa n) = (xs ++ [112] ++ Lib.itoa n) := by simp [shN, chN, dgN, bxN, pre, sep]
  rw [e_]
  exact HN.out
set_option maxRecDepth 8000 in
set_option maxHeartbeats 4000000 in
theorem wrote_Shared (n m : Int) (n0 : -9223372036854775808 ≤ n) (n1 : n ≤ 9223372036854775807) (m0 : -9223372036854775808 ≤ m) (m1 : m ≤ 9223372036854775807) : Wrote (.iface 58 (.agg #[.int .i64 n, .int .i64 m])) (shN n m) := by
  intro B sv xs w hown hB hlim ht
  have fEmpty := as_Shared_Empty (.agg #[.int .i64 n, .int .i64 m])
  have fAtom := as_Shared_Atom (.agg #[.int .i64 n, .int .i64 m])
  have fPublic := as_Shared_Public (.agg #[.int .i64 n, .int .i64 m])
  have fShared := as_Shared_Shared (.agg #[.int .i64 n, .int .i64 m])
  have HT : Hid (Tab B w) := ht
  have HM : Hid (xs.length + (shN n m).length + 64 ≤ 140737488355328) := hlim
  have HS : Hid (B ≤ w.heap.size) := hB
  have HN : Hid (Nm B w sv xs) := hown
  clear hown hlim ht hB
  have HQ0 : Hid (Blk w.heap.size 58 [.int .i64 n, .int .i64 m] (w.alloc (.cells #[.int .i64 n, .int .i64 m] 58))) := Blk.new w 58 [.int .i64 n, .int .i64 m]
  replace HN : Hid (Nm B (w.alloc (.cells #[.int .i64 n, .int .i64 m] 58)) sv xs) := HN.out.alloc _
  have HF : Hid (Fr B w (w.alloc (.cells #[.int .i64 n, .int .i64 m] 58))) := (Fr.refl B w).alloc HS.out _
  go_enter Tryd.func27, Tryd.ntmps27
  go_upto_region 16 with fail
  obtain ⟨W0, hW0⟩ : ∃ z, z = (w.alloc (.cells #[.int .i64 n, .int .i64 m] 58)) := ⟨_, rfl⟩
  obtain ⟨q, hq⟩ : ∃ z, z = w.heap.size := ⟨_, rfl⟩
  rw [← hW0, ← hq] at HQ0
  rw [← hW0] at HN HF
  rw [← hW0, ← hq]
  clear hW0 hq
  clear fEmpty fAtom fPublic fShared
  refine wp_region_noPanic ?_
  refine wp_region_held_drew (S := Blk q 58 [.int .i64 n, .int .i64 m]) (by kernel_rfl) HQ0.out.drew (fun hH => ?_)
  change wpAnyH _ _ _ _ _ _ #[false, false, false, false, false, false, false] _ _
  refine wpAnyH_take (i := 0) (oi := ?o0s0) (v := ?v0s0) ?h0s0 (by kernel_rfl) ?f0s0 ?r0s0 (fun _ _ _ h => h) (Or.inl ⟨?w0s0, ?y0s0⟩) (by assumption) ?t0s0
  case h0s0 => simp only [List.getElem?_toArray]; rfl
  case f0s0 => kernel_rfl
  case r0s0 => kernel_rfl
  case w0s0 => rfl
  case y0s0 => (intro u hu; (go_simp) <;> with_reducible rfl)
  try simp only [Act.put, List.setIfInBounds_toArray, List.set_cons_zero, List.set_cons_succ]
  refine wpAnyH_take (i := 3) (oi := ?o3s0) (v := ?v3s0) ?h3s0 (by kernel_rfl) ?f3s0 ?r3s0 (fun _ _ _ h => h) (Or.inl ⟨?w3s0, ?y3s0⟩) (by assumption) ?t3s0
  case h3s0 => simp only [List.getElem?_toArray]; rfl
  case f3s0 => kernel_rfl
  case r3s0 => kernel_rfl
  case w3s0 => rfl
  case y3s0 => (intro u hu; (go_simp) <;> with_reducible rfl)
  try simp only [Act.put, List.setIfInBounds_toArray, List.set_cons_zero, List.set_cons_succ]
  refine wpAnyH_take (i := 4) (oi := ?o4s0) (v := ?v4s0) ?h4s0 (by kernel_rfl) ?f4s0 ?r4s0 (fun _ _ _ h => h) (Or.inl ⟨?w4s0, ?y4s0⟩) (by assumption) ?t4s0
  case h4s0 => simp only [List.getElem?_toArray]; rfl
  case f4s0 => kernel_rfl
  case r4s0 => kernel_rfl
  case w4s0 => rfl
  case y4s0 => (intro u hu; (have hx := hu.cell (o := 0) rfl; go_simp) <;> with_reducible rfl)
  try simp only [Act.put, List.setIfInBounds_toArray, List.set_cons_zero, List.set_cons_succ]
  refine wpAnyH_ready (rs := [1]) (by kernel_rfl) (by simp) ?_
  refine AllReadyH.cons (o := ?o1s0) ?h1s0 (fun K hK => ?_) AllReadyH.nil
  case h1s0 => simp only [List.getElem?_toArray]; rfl
  go_simp
  refine hK.out _ _ (hH.alloc _) (fun hH' => ?_)
  clear hK K hH
  have hH := hH'
  clear hH'
  try simp only [List.setIfInBounds_toArray, List.set]
  have hN : Nm B (W0.drew.alloc (.cells #[.int .u8 (115 : UInt8).toNat] 5)) sv xs := HN.out.drew.alloc _
  have hF : Fr B w (W0.drew.alloc (.cells #[.int .u8 (115 : UInt8).toNat] 5)) := HF.out.drew.alloc HS.out _
  have hC := (Blk.new W0.drew 5 [.int .u8 (115 : UInt8).toNat]).cell (o := 0) rfl
  refine wpAnyH_ready (rs := [2]) (by kernel_rfl) (by simp) ?_
  refine AllReadyH.cons (o := ?o2s0) ?h2s0 (fun K hK => ?_) AllReadyH.nil
  case h2s0 => simp only [List.getElem?_toArray]; rfl
  refine step_ab B _ _ 115 _ _ hN (hF.le HS.out) (by have h_ := HM.out; have i1_ := Lib.itoa_length_le 0 (by decide) (by decide); simp only [shN, chN, dgN, bxN, List.length_append, List.length_cons, List.length_nil] at h_ ⊢; omega) hC (by rfl) _ _ (by rfl) (by rfl) (by rfl) ?_
  intro v0a u0a K1 K2
  have hF1 : Fr B w u0a := hF.trans K2
  refine hK.out _ _ (hH.fr (by decide) K2) (fun hH' => ?_)
  clear hK K hH
  have hH := hH'
  clear hH'
  try simp only [List.setIfInBounds_toArray, List.set]
  clear hN hF hC K2
  refine wpAnyH_ready (rs := [5]) (by kernel_rfl) (by simp) ?_
  refine AllReadyH.cons (o := ?o5s0) ?h5s0 (fun K hK => ?_) AllReadyH.nil
  case h5s0 => simp only [List.getElem?_toArray]; rfl
  go_simp
  refine (number_c B n n0 n1 _ _ _ K1 (hF1.le HS.out) (by have h_ := HM.out; have i1_ := Lib.itoa_length_le 0 (by decide) (by decide); simp only [shN, chN, dgN, bxN, List.length_append, List.length_cons, List.length_nil] at h_ ⊢; have it0 := Lib.itoa_length_le n n0 n1; have it1 := Lib.itoa_length_le m m0 m1; omega) (HT.out.on hF1.bel)).mono ?_
  rintro e u0b ⟨v0b, rfl, K3, K4⟩
  have hF2 : Fr B w u0b := hF1.trans K4
  refine hK.out _ _ (hH.fr (by decide) K4) (fun hH' => ?_)
  clear hK K hH
  have hH := hH'
  clear hH'
  try simp only [List.setIfInBounds_toArray, List.set]
  clear hF1 K1 K4
  refine wpAnyH_take (i := 6) (oi := ?o6s0) (v := ?v6s0) ?h6s0 (by kernel_rfl) ?f6s0 ?r6s0 (fun _ _ _ h => h) (Or.inl ⟨?w6s0, ?y6s0⟩) (by assumption) ?t6s0
  case h6s0 => simp only [List.getElem?_toArray]; rfl
  case f6s0 => kernel_rfl
  case r6s0 => kernel_rfl
  case w6s0 => rfl
  case y6s0 => (intro u hu; (go_simp) <;> with_reducible rfl)
  try simp only [Act.put, List.setIfInBounds_toArray, List.set_cons_zero, List.set_cons_succ]
  refine wpAnyH_done (by kernel_rfl) ?_ _
  refine NoPanic.normal ?_
  have HQ1 : Hid (Blk q 58 [.int .i64 n, .int .i64 m] u0b) := hH
  have HN : Hid (Nm B u0b v0b (xs ++ [115] ++ Lib.itoa n)) := K3
  have HF : Hid (Fr B w u0b) := hF2
  clear K3 hF2 hH
  go_upto_region 17 with fail
  refine wp_region_noPanic ?_
  refine wp_region_held_drew (S := Blk q 58 [.int .i64 n, .int .i64 m]) (by kernel_rfl) HQ1.out.drew (fun hH => ?_)
  change wpAnyH _ _ _ _ _ _ #[false, false, false, false, false, false, false] _ _
  refine wpAnyH_take (i := 0) (oi := ?o0s1) (v := ?v0s1) ?h0s1 (by kernel_rfl) ?f0s1 ?r0s1 (fun _ _ _ h => h) (Or.inl ⟨?w0s1, ?y0s1⟩) (by assumption) ?t0s1
  case h0s1 => simp only [List.getElem?_toArray]; rfl
  case f0s1 => kernel_rfl
  case r0s1 => kernel_rfl
  case w0s1 => rfl
  case y0s1 => (intro u hu; (go_simp) <;> with_reducible rfl)
  try simp only [Act.put, List.setIfInBounds_toArray, List.set_cons_zero, List.set_cons_succ]
  refine wpAnyH_take (i := 3) (oi := ?o3s1) (v := ?v3s1) ?h3s1 (by kernel_rfl) ?f3s1 ?r3s1 (fun _ _ _ h => h) (Or.inl ⟨?w3s1, ?y3s1⟩) (by assumption) ?t3s1
  case h3s1 => simp only [List.getElem?_toArray]; rfl
  case f3s1 => kernel_rfl
  case r3s1 => kernel_rfl
  case w3s1 => rfl
  case y3s1 => (intro u hu; (go_simp) <;> with_reducible rfl)
  try simp only [Act.put, List.setIfInBounds_toArray, List.set_cons_zero, List.set_cons_succ]
  refine wpAnyH_take (i := 4) (oi := ?o4s1) (v := ?v4s1) ?h4s1 (by kernel_rfl) ?f4s1 ?r4s1 (fun _ _ _ h => h) (Or.inl ⟨?w4s1, ?y4s1⟩) (by assumption) ?t4s1
  case h4s1 => simp only [List.getElem?_toArray]; rfl
  case f4s1 => kernel_rfl
  case r4s1 => kernel_rfl
  case w4s1 => rfl
  case y4s1 => (intro u hu; (have hx := hu.cell (o := 1) rfl; go_simp) <;> with_reducible rfl)
  try simp only [Act.put, List.setIfInBounds_toArray, List.set_cons_zero, List.set_cons_succ]
  refine wpAnyH_ready (rs := [1]) (by kernel_rfl) (by simp) ?_
  refine AllReadyH.cons (o := ?o1s1) ?h1s1 (fun K hK => ?_) AllReadyH.nil
  case h1s1 => simp only [List.getElem?_toArray]; rfl
  go_simp
  refine hK.out _ _ (hH.alloc _) (fun hH' => ?_)
  clear hK K hH
  have hH := hH'
  clear hH'
  try simp only [List.setIfInBounds_toArray, List.set]
  have hN : Nm B (u0b.drew.alloc (.cells #[.int .u8 (46 : UInt8).toNat] 5)) v0b (xs ++ [115] ++ Lib.itoa n) := HN.out.drew.alloc _
  have hF : Fr B w (u0b.drew.alloc (.cells #[.int .u8 (46 : UInt8).toNat] 5)) := HF.out.drew.alloc HS.out _
  have hC := (Blk.new u0b.drew 5 [.int .u8 (46 : UInt8).toNat]).cell (o := 0) rfl
  refine wpAnyH_ready (rs := [2]) (by kernel_rfl) (by simp) ?_
  refine AllReadyH.cons (o := ?o2s1) ?h2s1 (fun K hK => ?_) AllReadyH.nil
  case h2s1 => simp only [List.getElem?_toArray]; rfl
  refine step_ab B _ _ 46 _ _ hN (hF.le HS.out) (by have h_ := HM.out; have i1_ := Lib.itoa_length_le 0 (by decide) (by decide); simp only [shN, chN, dgN, bxN, List.length_append, List.length_cons, List.length_nil] at h_ ⊢; omega) hC (by rfl) _ _ (by rfl) (by rfl) (by rfl) ?_
  intro v1a u1a K1 K2
  have hF1 : Fr B w u1a := hF.trans K2
  refine hK.out _ _ (hH.fr (by decide) K2) (fun hH' => ?_)
  clear hK K hH
  have hH := hH'
  clear hH'
  try simp only [List.setIfInBounds_toArray, List.set]
  clear hN hF hC K2
  refine wpAnyH_ready (rs := [5]) (by kernel_rfl) (by simp) ?_
  refine AllReadyH.cons (o := ?o5s1) ?h5s1 (fun K hK => ?_) AllReadyH.nil
  case h5s1 => simp only [List.getElem?_toArray]; rfl
  go_simp
  refine (number_c B m m0 m1 _ _ _ K1 (hF1.le HS.out) (by have h_ := HM.out; have i1_ := Lib.itoa_length_le 0 (by decide) (by decide); simp only [shN, chN, dgN, bxN, List.length_append, List.length_cons, List.length_nil] at h_ ⊢; have it0 := Lib.itoa_length_le n n0 n1; have it1 := Lib.itoa_length_le m m0 m1; omega) (HT.out.on hF1.bel)).mono ?_
  rintro e u1b ⟨v1b, rfl, K3, K4⟩
  have hF2 : Fr B w u1b := hF1.trans K4
  refine hK.out _ _ (hH.fr (by decide) K4) (fun hH' => ?_)
  clear hK K hH
  have hH := hH'
  clear hH'
  try simp only [List.setIfInBounds_toArray, List.set]
  clear hF1 K1 K4
  refine wpAnyH_take (i := 6) (oi := ?o6s1) (v := ?v6s1) ?h6s1 (by kernel_rfl) ?f6s1 ?r6s1 (fun _ _ _ h => h) (Or.inl ⟨?w6s1, ?y6s1⟩) (by assumption) ?t6s1
  case h6s1 => simp only [List.getElem?_toArray]; rfl
  case f6s1 => kernel_rfl
  case r6s1 => kernel_rfl
  case w6s1 => rfl
  case y6s1 => (intro u hu; (go_simp) <;> with_reducible rfl)
  try simp only [Act.put, List.setIfInBounds_toArray, List.set_cons_zero, List.set_cons_succ]
  refine wpAnyH_done (by kernel_rfl) ?_ _
  refine NoPanic.normal ?_
  have HQ2 : Hid (Blk q 58 [.int .i64 n, .int .i64 m] u1b) := hH
  have HN : Hid (Nm B u1b v1b ((xs ++ [115] ++ Lib.itoa n) ++ [46] ++ Lib.itoa m)) := K3
  have HF : Hid (Fr B w u1b) := hF2
  clear K3 hF2 hH
  go_wp2
  go_ret
  refine ⟨v1b, rfl, ?_, HF.out⟩
  have e_ : xs ++ (shN n m) = ((xs ++ [115] ++ Lib.itoa n) ++ [46] ++ Lib.itoa m) := by simp [shN, chN, dgN, bxN, pre, sep]
  rw [e_]
  exact HN.out
set_option maxRecDepth 8000 in
set_option maxHeartbeats 4000000 in
theorem wrote_Chain (n : Int) (tx : TypeId) (vx : Value) (nx : List UInt8) (ty : TypeId) (vy : Value) (ny : List UInt8) (n0 : -9223372036854775808 ≤ n) (n1 : n ≤ 9223372036854775807) (px : Wrote (.iface tx vx) nx) (py : Wrote (.iface ty vy) ny) : Wrote (.iface 33 (.agg #[.int .i64 n, .iface tx vx, .iface ty vy])) (chN n nx ny) := by
  intro B sv xs w hown hB hlim ht
  have fEmpty := as_Chain_Empty (.agg #[.int .i64 n, .iface tx vx, .iface ty vy])
  have fAtom := as_Chain_Atom (.agg #[.int .i64 n, .iface tx vx, .iface ty vy])
  have fPublic := as_Chain_Public (.agg #[.int .i64 n, .iface tx vx, .iface ty vy])
  have fShared := as_Chain_Shared (.agg #[.int .i64 n, .iface tx vx, .iface ty vy])
  have fChain := as_Chain_Chain (.agg #[.int .i64 n, .iface tx vx, .iface ty vy])
  have hx : Hid (Wrote (.iface tx vx) nx) := px
  have hy : Hid (Wrote (.iface ty vy) ny) := py
  have HT : Hid (Tab B w) := ht
  have HM : Hid (xs.length + (chN n nx ny).length + 64 ≤ 140737488355328) := hlim
  have HS : Hid (B ≤ w.heap.size) := hB
  have HN : Hid (Nm B w sv xs) := hown
  clear px py hown hlim ht hB
  have HQ0 : Hid (Blk w.heap.size 33 [.int .i64 n, .iface tx vx, .iface ty vy] (w.alloc (.cells #[.int .i64 n, .iface tx vx, .iface ty vy] 33))) := Blk.new w 33 [.int .i64 n, .iface tx vx, .iface ty vy]
  replace HN : Hid (Nm B (w.alloc (.cells #[.int .i64 n, .iface tx vx, .iface ty vy] 33)) sv xs) := HN.out.alloc _
  have HF : Hid (Fr B w (w.alloc (.cells #[.int .i64 n, .iface tx vx, .iface ty vy] 33))) := (Fr.refl B w).alloc HS.out _
  go_enter Tryd.func27, Tryd.ntmps27
  go_upto_region 20 with fail
  obtain ⟨W0, hW0⟩ : ∃ z, z = (w.alloc (.cells #[.int .i64 n, .iface tx vx, .iface ty vy] 33)) := ⟨_, rfl⟩
  obtain ⟨q, hq⟩ : ∃ z, z = w.heap.size := ⟨_, rfl⟩
  rw [← hW0, ← hq] at HQ0
  rw [← hW0] at HN HF
  rw [← hW0, ← hq]
  clear hW0 hq
  clear fEmpty fAtom fPublic fShared fChain
  refine wp_region_noPanic ?_
  refine wp_region_held_drew (S := Blk q 33 [.int .i64 n, .iface tx vx, .iface ty vy]) (by kernel_rfl) HQ0.out.drew (fun hH => ?_)
  change wpAnyH _ _ _ _ _ _ #[false, false, false, false, false, false, false] _ _
  refine wpAnyH_take (i := 0) (oi := ?o0c0) (v := ?v0c0) ?h0c0 (by kernel_rfl) ?f0c0 ?r0c0 (fun _ _ _ h => h) (Or.inl ⟨?w0c0, ?y0c0⟩) (by assumption) ?t0c0
  case h0c0 => simp only [List.getElem?_toArray]; rfl
  case f0c0 => kernel_rfl
  case r0c0 => kernel_rfl
  case w0c0 => rfl
  case y0c0 => (intro u hu; (go_simp) <;> with_reducible rfl)
  try simp only [Act.put, List.setIfInBounds_toArray, List.set_cons_zero, List.set_cons_succ]
  refine wpAnyH_take (i := 3) (oi := ?o3c0) (v := ?v3c0) ?h3c0 (by kernel_rfl) ?f3c0 ?r3c0 (fun _ _ _ h => h) (Or.inl ⟨?w3c0, ?y3c0⟩) (by assumption) ?t3c0
  case h3c0 => simp only [List.getElem?_toArray]; rfl
  case f3c0 => kernel_rfl
  case r3c0 => kernel_rfl
  case w3c0 => rfl
  case y3c0 => (intro u hu; (go_simp) <;> with_reducible rfl)
  try simp only [Act.put, List.setIfInBounds_toArray, List.set_cons_zero, List.set_cons_succ]
  refine wpAnyH_take (i := 4) (oi := ?o4c0) (v := ?v4c0) ?h4c0 (by kernel_rfl) ?f4c0 ?r4c0 (fun _ _ _ h => h) (Or.inl ⟨?w4c0, ?y4c0⟩) (by assumption) ?t4c0
  case h4c0 => simp only [List.getElem?_toArray]; rfl
  case f4c0 => kernel_rfl
  case r4c0 => kernel_rfl
  case w4c0 => rfl
  case y4c0 => (intro u hu; (have hx := hu.cell (o := 0) rfl; go_simp) <;> with_reducible rfl)
  try simp only [Act.put, List.setIfInBounds_toArray, List.set_cons_zero, List.set_cons_succ]
  refine wpAnyH_ready (rs := [1]) (by kernel_rfl) (by simp) ?_
  refine AllReadyH.cons (o := ?o1c0) ?h1c0 (fun K hK => ?_) AllReadyH.nil
  case h1c0 => simp only [List.getElem?_toArray]; rfl
  go_simp
  refine hK.out _ _ (hH.alloc _) (fun hH' => ?_)
  clear hK K hH
  have hH := hH'
  clear hH'
  try simp only [List.setIfInBounds_toArray, List.set]
  have hN : Nm B (W0.drew.alloc (.cells #[.int .u8 (99 : UInt8).toNat] 5)) sv xs := HN.out.drew.alloc _
  have hF : Fr B w (W0.drew.alloc (.cells #[.int .u8 (99 : UInt8).toNat] 5)) := HF.out.drew.alloc HS.out _
  have hC := (Blk.new W0.drew 5 [.int .u8 (99 : UInt8).toNat]).cell (o := 0) rfl
  refine wpAnyH_ready (rs := [2]) (by kernel_rfl) (by simp) ?_
  refine AllReadyH.cons (o := ?o2c0) ?h2c0 (fun K hK => ?_) AllReadyH.nil
  case h2c0 => simp only [List.getElem?_toArray]; rfl
  refine step_ab B _ _ 99 _ _ hN (hF.le HS.out) (by have h_ := HM.out; have i1_ := Lib.itoa_length_le 0 (by decide) (by decide); simp only [shN, chN, dgN, bxN, List.length_append, List.length_cons, List.length_nil] at h_ ⊢; omega) hC (by rfl) _ _ (by rfl) (by rfl) (by rfl) ?_
  intro v0a u0a K1 K2
  have hF1 : Fr B w u0a := hF.trans K2
  refine hK.out _ _ (hH.fr (by decide) K2) (fun hH' => ?_)
  clear hK K hH
  have hH := hH'
  clear hH'
  try simp only [List.setIfInBounds_toArray, List.set]
  clear hN hF hC K2
  refine wpAnyH_ready (rs := [5]) (by kernel_rfl) (by simp) ?_
  refine AllReadyH.cons (o := ?o5c0) ?h5c0 (fun K hK => ?_) AllReadyH.nil
  case h5c0 => simp only [List.getElem?_toArray]; rfl
  go_simp
  refine (number_c B n n0 n1 _ _ _ K1 (hF1.le HS.out) (by have h_ := HM.out; have i1_ := Lib.itoa_length_le 0 (by decide) (by decide); simp only [shN, chN, dgN, bxN, List.length_append, List.length_cons, List.length_nil] at h_ ⊢; have it0 := Lib.itoa_length_le n n0 n1; omega) (HT.out.on hF1.bel)).mono ?_
  rintro e u0b ⟨v0b, rfl, K3, K4⟩
  have hF2 : Fr B w u0b := hF1.trans K4
  refine hK.out _ _ (hH.fr (by decide) K4) (fun hH' => ?_)
  clear hK K hH
  have hH := hH'
  clear hH'
  try simp only [List.setIfInBounds_toArray, List.set]
  clear hF1 K1 K4
  refine wpAnyH_take (i := 6) (oi := ?o6c0) (v := ?v6c0) ?h6c0 (by kernel_rfl) ?f6c0 ?r6c0 (fun _ _ _ h => h) (Or.inl ⟨?w6c0, ?y6c0⟩) (by assumption) ?t6c0
  case h6c0 => simp only [List.getElem?_toArray]; rfl
  case f6c0 => kernel_rfl
  case r6c0 => kernel_rfl
  case w6c0 => rfl
  case y6c0 => (intro u hu; (go_simp) <;> with_reducible rfl)
  try simp only [Act.put, List.setIfInBounds_toArray, List.set_cons_zero, List.set_cons_succ]
  refine wpAnyH_done (by kernel_rfl) ?_ _
  refine NoPanic.normal ?_
  have HQ1 : Hid (Blk q 33 [.int .i64 n, .iface tx vx, .iface ty vy] u0b) := hH
  have HN : Hid (Nm B u0b v0b (xs ++ [99] ++ Lib.itoa n)) := K3
  have HF : Hid (Fr B w u0b) := hF2
  clear K3 hF2 hH
  have k1 := HQ1.out.cell (o := 1) rfl
  have k2 := HQ1.out.cell (o := 2) rfl
  go_wp2_with fail
  refine (parts_c [.iface tx vx, .iface ty vy] [nx, ny] 2 rfl rfl (by intro j v l h1 h2; match j with | 0 => simp at h1 h2; subst h1 h2; exact hx.out | 1 => simp at h1 h2; subst h1 h2; exact hy.out | j + 2 => simp at h1) (by decide) B _ _ _ _ (HN.out.alloc _) ((HF.out.alloc HS.out _).le HS.out) (by have h_ := HM.out; have it0 := Lib.itoa_length_le n n0 n1; simp [shN, chN, dgN, bxN, pre] at h_ ⊢; omega) (HT.out.on (HF.out.alloc HS.out _).bel) (Blk.new _ _ [.iface tx vx, .iface ty vy])).mono ?_
  rintro e z ⟨vz, rfl, K3, K4⟩
  replace HN : Hid (Nm B z vz ((xs ++ [99] ++ Lib.itoa n) ++ pre [nx, ny] 2 ++ [41])) := K3
  replace HF : Hid (Fr B w z) := (HF.out.alloc HS.out _).trans K4
  clear K3 K4 k1 k2
  go_wp2
  go_ret
  refine ⟨vz, rfl, ?_, HF.out⟩
  have e_ : xs ++ (chN n nx ny) = (xs ++ [99] ++ Lib.itoa n) ++ pre [nx, ny] 2 ++ [41] := by simp [shN, chN, dgN, bxN, pre, sep]
  rw [e_]
  exact HN.out
set_option maxRecDepth 8000 in
set_option maxHeartbeats 4000000 in
theorem wrote_ChainNil (n : Int) (tx : TypeId) (vx : Value) (nx : List UInt8) (n0 : -9223372036854775808 ≤ n) (n1 : n ≤ 9223372036854775807) (px : Wrote (.iface tx vx) nx) : Wrote (.iface 33 (.agg #[.int .i64 n, .iface tx vx, .nilIface])) (chN n nx [63]) := by
  intro B sv xs w hown hB hlim ht
  have fEmpty := as_Chain_Empty (.agg #[.int .i64 n, .iface tx vx, .nilIface])
  have fAtom := as_Chain_Atom (.agg #[.int .i64 n, .iface tx vx, .nilIface])
  have fPublic := as_Chain_Public (.agg #[.int .i64 n, .iface tx vx, .nilIface])
  have fShared := as_Chain_Shared (.agg #[.int .i64 n, .iface tx vx, .nilIface])
  have fChain := as_Chain_Chain (.agg #[.int .i64 n, .iface tx vx, .nilIface])
  have hx : Hid (Wrote (.iface tx vx) nx) := px
  have HT : Hid (Tab B w) := ht
  have HM : Hid (xs.length + (chN n nx [63]).length + 64 ≤ 140737488355328) := hlim
  have HS : Hid (B ≤ w.heap.size) := hB
  have HN : Hid (Nm B w sv xs) := hown
  clear px hown hlim ht hB
  have hy : Hid (Wrote .nilIface [63]) := wrote_nil
  have HQ0 : Hid (Blk w.heap.size 33 [.int .i64 n, .iface tx vx, .nilIface] (w.alloc (.cells #[.int .i64 n, .iface tx vx, .nilIface] 33))) := Blk.new w 33 [.int .i64 n, .iface tx vx, .nilIface]
  replace HN : Hid (Nm B (w.alloc (.cells #[.int .i64 n, .iface tx vx, .nilIface] 33)) sv xs) := HN.out.alloc _
  have HF : Hid (Fr B w (w.alloc (.cells #[.int .i64 n, .iface tx vx, .nilIface] 33))) := (Fr.refl B w).alloc HS.out _
  go_enter Tryd.func27, Tryd.ntmps27
  go_upto_region 20 with fail
  obtain ⟨W0, hW0⟩ : ∃ z, z = (w.alloc (.cells #[.int .i64 n, .iface tx vx, .nilIface] 33)) := ⟨_, rfl⟩
  obtain ⟨q, hq⟩ : ∃ z, z = w.heap.size := ⟨_, rfl⟩
  rw [← hW0, ← hq] at HQ0
  rw [← hW0] at HN HF
  rw [← hW0, ← hq]
  clear hW0 hq
  clear fEmpty fAtom fPublic fShared fChain
  refine wp_region_noPanic ?_
  refine wp_region_held_drew (S := Blk q 33 [.int .i64 n, .iface tx vx, .nilIface]) (by kernel_rfl) HQ0.out.drew (fun hH => ?_)
  change wpAnyH _ _ _ _ _ _ #[false, false, false, false, false, false, false] _ _
  refine wpAnyH_take (i := 0) (oi := ?o0c0) (v := ?v0c0) ?h0c0 (by kernel_rfl) ?f0c0 ?r0c0 (fun _ _ _ h => h) (Or.inl ⟨?w0c0, ?y0c0⟩) (by assumption) ?t0c0
  case h0c0 => simp only [List.getElem?_toArray]; rfl
  case f0c0 => kernel_rfl
  case r0c0 => kernel_rfl
  case w0c0 => rfl
  case y0c0 => (intro u hu; (go_simp) <;> with_reducible rfl)
  try simp only [Act.put, List.setIfInBounds_toArray, List.set_cons_zero, List.set_cons_succ]
  refine wpAnyH_take (i := 3) (oi := ?o3c0) (v := ?v3c0) ?h3c0 (by kernel_rfl) ?f3c0 ?r3c0 (fun _ _ _ h => h) (Or.inl ⟨?w3c0, ?y3c0⟩) (by assumption) ?t3c0
  case h3c0 => simp only [List.getElem?_toArray]; rfl
  case f3c0 => kernel_rfl
  case r3c0 => kernel_rfl
  case w3c0 => rfl
  case y3c0 => (intro u hu; (go_simp) <;> with_reducible rfl)
  try simp only [Act.put, List.setIfInBounds_toArray, List.set_cons_zero, List.set_cons_succ]
  refine wpAnyH_take (i := 4) (oi := ?o4c0) (v := ?v4c0) ?h4c0 (by kernel_rfl) ?f4c0 ?r4c0 (fun _ _ _ h => h) (Or.inl ⟨?w4c0, ?y4c0⟩) (by assumption) ?t4c0
  case h4c0 => simp only [List.getElem?_toArray]; rfl
  case f4c0 => kernel_rfl
  case r4c0 => kernel_rfl
  case w4c0 => rfl
  case y4c0 => (intro u hu; (have hx := hu.cell (o := 0) rfl; go_simp) <;> with_reducible rfl)
  try simp only [Act.put, List.setIfInBounds_toArray, List.set_cons_zero, List.set_cons_succ]
  refine wpAnyH_ready (rs := [1]) (by kernel_rfl) (by simp) ?_
  refine AllReadyH.cons (o := ?o1c0) ?h1c0 (fun K hK => ?_) AllReadyH.nil
  case h1c0 => simp only [List.getElem?_toArray]; rfl
  go_simp
  refine hK.out _ _ (hH.alloc _) (fun hH' => ?_)
  clear hK K hH
  have hH := hH'
  clear hH'
  try simp only [List.setIfInBounds_toArray, List.set]
  have hN : Nm B (W0.drew.alloc (.cells #[.int .u8 (99 : UInt8).toNat] 5)) sv xs := HN.out.drew.alloc _
  have hF : Fr B w (W0.drew.alloc (.cells #[.int .u8 (99 : UInt8).toNat] 5)) := HF.out.drew.alloc HS.out _
  have hC := (Blk.new W0.drew 5 [.int .u8 (99 : UInt8).toNat]).cell (o := 0) rfl
  refine wpAnyH_ready (rs := [2]) (by kernel_rfl) (by simp) ?_
  refine AllReadyH.cons (o := ?o2c0) ?h2c0 (fun K hK => ?_) AllReadyH.nil
  case h2c0 => simp only [List.getElem?_toArray]; rfl
  refine step_ab B _ _ 99 _ _ hN (hF.le HS.out) (by have h_ := HM.out; have i1_ := Lib.itoa_length_le 0 (by decide) (by decide); simp only [shN, chN, dgN, bxN, List.length_append, List.length_cons, List.length_nil] at h_ ⊢; omega) hC (by rfl) _ _ (by rfl) (by rfl) (by rfl) ?_
  intro v0a u0a K1 K2
  have hF1 : Fr B w u0a := hF.trans K2
  refine hK.out _ _ (hH.fr (by decide) K2) (fun hH' => ?_)
  clear hK K hH
  have hH := hH'
  clear hH'
  try simp only [List.setIfInBounds_toArray, List.set]
  clear hN hF hC K2
  refine wpAnyH_ready (rs := [5]) (by kernel_rfl) (by simp) ?_
  refine AllReadyH.cons (o := ?o5c0) ?h5c0 (fun K hK => ?_) AllReadyH.nil
  case h5c0 => simp only [List.getElem?_toArray]; rfl
  go_simp
  refine (number_c B n n0 n1 _ _ _ K1 (hF1.le HS.out) (by have h_ := HM.out; have i1_ := Lib.itoa_length_le 0 (by decide) (by decide); simp only [shN, chN, dgN, bxN, List.length_append, List.length_cons, List.length_nil] at h_ ⊢; have it0 := Lib.itoa_length_le n n0 n1; omega) (HT.out.on hF1.bel)).mono ?_
  rintro e u0b ⟨v0b, rfl, K3, K4⟩
  have hF2 : Fr B w u0b := hF1.trans K4
  refine hK.out _ _ (hH.fr (by decide) K4) (fun hH' => ?_)
  clear hK K hH
  have hH := hH'
  clear hH'
  try simp only [List.setIfInBounds_toArray, List.set]
  clear hF1 K1 K4
  refine wpAnyH_take (i := 6) (oi := ?o6c0) (v := ?v6c0) ?h6c0 (by kernel_rfl) ?f6c0 ?r6c0 (fun _ _ _ h => h) (Or.inl ⟨?w6c0, ?y6c0⟩) (by assumption) ?t6c0
  case h6c0 => simp only [List.getElem?_toArray]; rfl
  case f6c0 => kernel_rfl
  case r6c0 => kernel_rfl
  case w6c0 => rfl
  case y6c0 => (intro u hu; (go_simp) <;> with_reducible rfl)
  try simp only [Act.put, List.setIfInBounds_toArray, List.set_cons_zero, List.set_cons_succ]
  refine wpAnyH_done (by kernel_rfl) ?_ _
  refine NoPanic.normal ?_
  have HQ1 : Hid (Blk q 33 [.int .i64 n, .iface tx vx, .nilIface] u0b) := hH
  have HN : Hid (Nm B u0b v0b (xs ++ [99] ++ Lib.itoa n)) := K3
  have HF : Hid (Fr B w u0b) := hF2
  clear K3 hF2 hH
  have k1 := HQ1.out.cell (o := 1) rfl
  have k2 := HQ1.out.cell (o := 2) rfl
  go_wp2_with fail
  refine (parts_c [.iface tx vx, .nilIface] [nx, [63]] 2 rfl rfl (by intro j v l h1 h2; match j with | 0 => simp at h1 h2; subst h1 h2; exact hx.out | 1 => simp at h1 h2; subst h1 h2; exact hy.out | j + 2 => simp at h1) (by decide) B _ _ _ _ (HN.out.alloc _) ((HF.out.alloc HS.out _).le HS.out) (by have h_ := HM.out; have it0 := Lib.itoa_length_le n n0 n1; simp [shN, chN, dgN, bxN, pre] at h_ ⊢; omega) (HT.out.on (HF.out.alloc HS.out _).bel) (Blk.new _ _ [.iface tx vx, .nilIface])).mono ?_
  rintro e z ⟨vz, rfl, K3, K4⟩
  replace HN : Hid (Nm B z vz ((xs ++ [99] ++ Lib.itoa n) ++ pre [nx, [63]] 2 ++ [41])) := K3
  replace HF : Hid (Fr B w z) := (HF.out.alloc HS.out _).trans K4
  clear K3 K4 k1 k2
  go_wp2
  go_ret
  refine ⟨vz, rfl, ?_, HF.out⟩
  have e_ : xs ++ (chN n nx [63]) = (xs ++ [99] ++ Lib.itoa n) ++ pre [nx, [63]] 2 ++ [41] := by simp [shN, chN, dgN, bxN, pre, sep]
  rw [e_]
  exact HN.out
set_option maxRecDepth 8000 in
set_option maxHeartbeats 4000000 in
theorem wrote_Box (n : Int) (tx : TypeId) (vx : Value) (nx : List UInt8) (ty : TypeId) (vy : Value) (ny : List UInt8) (tz : TypeId) (vz : Value) (nz : List UInt8) (n0 : -9223372036854775808 ≤ n) (n1 : n ≤ 9223372036854775807) (px : Wrote (.iface tx vx) nx) (py : Wrote (.iface ty vy) ny) (pz : Wrote (.iface tz vz) nz) : Wrote (.iface 31 (.agg #[.iface tx vx, .int .i64 n, .iface ty vy, .iface tz vz])) (bxN n nx ny nz) := by
  intro B sv xs w hown hB hlim ht
  have fEmpty := as_Box_Empty (.agg #[.iface tx vx, .int .i64 n, .iface ty vy, .iface tz vz])
  have fAtom := as_Box_Atom (.agg #[.iface tx vx, .int .i64 n, .iface ty vy, .iface tz vz])
  have fPublic := as_Box_Public (.agg #[.iface tx vx, .int .i64 n, .iface ty vy, .iface tz vz])
  have fShared := as_Box_Shared (.agg #[.iface tx vx, .int .i64 n, .iface ty vy, .iface tz vz])
  have fChain := as_Box_Chain (.agg #[.iface tx vx, .int .i64 n, .iface ty vy, .iface tz vz])
  have fDigest := as_Box_Digest (.agg #[.iface tx vx, .int .i64 n, .iface ty vy, .iface tz vz])
  have fBox := as_Box_Box (.agg #[.iface tx vx, .int .i64 n, .iface ty vy, .iface tz vz])
  have hx : Hid (Wrote (.iface tx vx) nx) := px
  have hy : Hid (Wrote (.iface ty vy) ny) := py
  have hz : Hid (Wrote (.iface tz vz) nz) := pz
  have HT : Hid (Tab B w) := ht
  have HM : Hid (xs.length + (bxN n nx ny nz).length + 64 ≤ 140737488355328) := hlim
  have HS : Hid (B ≤ w.heap.size) := hB
  have HN : Hid (Nm B w sv xs) := hown
  clear px py pz hown hlim ht hB
  have HQ0 : Hid (Blk w.heap.size 31 [.iface tx vx, .int .i64 n, .iface ty vy, .iface tz vz] (w.alloc (.cells #[.iface tx vx, .int .i64 n, .iface ty vy, .iface tz vz] 31))) := Blk.new w 31 [.iface tx vx, .int .i64 n, .iface ty vy, .iface tz vz]
  replace HN : Hid (Nm B (w.alloc (.cells #[.iface tx vx, .int .i64 n, .iface ty vy, .iface tz vz] 31)) sv xs) := HN.out.alloc _
  have HF : Hid (Fr B w (w.alloc (.cells #[.iface tx vx, .int .i64 n, .iface ty vy, .iface tz vz] 31))) := (Fr.refl B w).alloc HS.out _
  go_enter Tryd.func27, Tryd.ntmps27
  go_upto_region 27 with fail
  obtain ⟨W0, hW0⟩ : ∃ z, z = (w.alloc (.cells #[.iface tx vx, .int .i64 n, .iface ty vy, .iface tz vz] 31)) := ⟨_, rfl⟩
  obtain ⟨q, hq⟩ : ∃ z, z = w.heap.size := ⟨_, rfl⟩
  rw [← hW0, ← hq] at HQ0
  rw [← hW0] at HN HF
  rw [← hW0, ← hq]
  clear hW0 hq
  clear fEmpty fAtom fPublic fShared fChain fDigest fBox
  refine wp_region_noPanic ?_
  refine wp_region_held_drew (S := Blk q 31 [.iface tx vx, .int .i64 n, .iface ty vy, .iface tz vz]) (by kernel_rfl) HQ0.out.drew (fun hH => ?_)
  change wpAnyH _ _ _ _ _ _ #[false, false, false, false, false, false, false] _ _
  refine wpAnyH_take (i := 0) (oi := ?o0b0) (v := ?v0b0) ?h0b0 (by kernel_rfl) ?f0b0 ?r0b0 (fun _ _ _ h => h) (Or.inl ⟨?w0b0, ?y0b0⟩) (by assumption) ?t0b0
  case h0b0 => simp only [List.getElem?_toArray]; rfl
  case f0b0 => kernel_rfl
  case r0b0 => kernel_rfl
  case w0b0 => rfl
  case y0b0 => (intro u hu; (go_simp) <;> with_reducible rfl)
  try simp only [Act.put, List.setIfInBounds_toArray, List.set_cons_zero, List.set_cons_succ]
  refine wpAnyH_take (i := 3) (oi := ?o3b0) (v := ?v3b0) ?h3b0 (by kernel_rfl) ?f3b0 ?r3b0 (fun _ _ _ h => h) (Or.inl ⟨?w3b0, ?y3b0⟩) (by assumption) ?t3b0
  case h3b0 => simp only [List.getElem?_toArray]; rfl
  case f3b0 => kernel_rfl
  case r3b0 => kernel_rfl
  case w3b0 => rfl
  case y3b0 => (intro u hu; (go_simp) <;> with_reducible rfl)
  try simp only [Act.put, List.setIfInBounds_toArray, List.set_cons_zero, List.set_cons_succ]
  refine wpAnyH_take (i := 4) (oi := ?o4b0) (v := ?v4b0) ?h4b0 (by kernel_rfl) ?f4b0 ?r4b0 (fun _ _ _ h => h) (Or.inl ⟨?w4b0, ?y4b0⟩) (by assumption) ?t4b0
  case h4b0 => simp only [List.getElem?_toArray]; rfl
  case f4b0 => kernel_rfl
  case r4b0 => kernel_rfl
  case w4b0 => rfl
  case y4b0 => (intro u hu; (have hx := hu.cell (o := 1) rfl; go_simp) <;> with_reducible rfl)
  try simp only [Act.put, List.setIfInBounds_toArray, List.set_cons_zero, List.set_cons_succ]
  refine wpAnyH_ready (rs := [1]) (by kernel_rfl) (by simp) ?_
  refine AllReadyH.cons (o := ?o1b0) ?h1b0 (fun K hK => ?_) AllReadyH.nil
  case h1b0 => simp only [List.getElem?_toArray]; rfl
  go_simp
  refine hK.out _ _ (hH.alloc _) (fun hH' => ?_)
  clear hK K hH
  have hH := hH'
  clear hH'
  try simp only [List.setIfInBounds_toArray, List.set]
  have hN : Nm B (W0.drew.alloc (.cells #[.int .u8 (98 : UInt8).toNat] 5)) sv xs := HN.out.drew.alloc _
  have hF : Fr B w (W0.drew.alloc (.cells #[.int .u8 (98 : UInt8).toNat] 5)) := HF.out.drew.alloc HS.out _
  have hC := (Blk.new W0.drew 5 [.int .u8 (98 : UInt8).toNat]).cell (o := 0) rfl
  refine wpAnyH_ready (rs := [2]) (by kernel_rfl) (by simp) ?_
  refine AllReadyH.cons (o := ?o2b0) ?h2b0 (fun K hK => ?_) AllReadyH.nil
  case h2b0 => simp only [List.getElem?_toArray]; rfl
  refine step_ab B _ _ 98 _ _ hN (hF.le HS.out) (by have h_ := HM.out; have i1_ := Lib.itoa_length_le 0 (by decide) (by decide); simp only [shN, chN, dgN, bxN, List.length_append, List.length_cons, List.length_nil] at h_ ⊢; omega) hC (by rfl) _ _ (by rfl) (by rfl) (by rfl) ?_
  intro v0a u0a K1 K2
  have hF1 : Fr B w u0a := hF.trans K2
  refine hK.out _ _ (hH.fr (by decide) K2) (fun hH' => ?_)
  clear hK K hH
  have hH := hH'
  clear hH'
  try simp only [List.setIfInBounds_toArray, List.set]
  clear hN hF hC K2
  refine wpAnyH_ready (rs := [5]) (by kernel_rfl) (by simp) ?_
  refine AllReadyH.cons (o := ?o5b0) ?h5b0 (fun K hK => ?_) AllReadyH.nil
  case h5b0 => simp only [List.getElem?_toArray]; rfl
  go_simp
  refine (number_c B n n0 n1 _ _ _ K1 (hF1.le HS.out) (by have h_ := HM.out; have i1_ := Lib.itoa_length_le 0 (by decide) (by decide); simp only [shN, chN, dgN, bxN, List.length_append, List.length_cons, List.length_nil] at h_ ⊢; have it0 := Lib.itoa_length_le n n0 n1; omega) (HT.out.on hF1.bel)).mono ?_
  rintro e u0b ⟨v0b, rfl, K3, K4⟩
  have hF2 : Fr B w u0b := hF1.trans K4
  refine hK.out _ _ (hH.fr (by decide) K4) (fun hH' => ?_)
  clear hK K hH
  have hH := hH'
  clear hH'
  try simp only [List.setIfInBounds_toArray, List.set]
  clear hF1 K1 K4
  refine wpAnyH_take (i := 6) (oi := ?o6b0) (v := ?v6b0) ?h6b0 (by kernel_rfl) ?f6b0 ?r6b0 (fun _ _ _ h => h) (Or.inl ⟨?w6b0, ?y6b0⟩) (by assumption) ?t6b0
  case h6b0 => simp only [List.getElem?_toArray]; rfl
  case f6b0 => kernel_rfl
  case r6b0 => kernel_rfl
  case w6b0 => rfl
  case y6b0 => (intro u hu; (go_simp) <;> with_reducible rfl)
  try simp only [Act.put, List.setIfInBounds_toArray, List.set_cons_zero, List.set_cons_succ]
  refine wpAnyH_done (by kernel_rfl) ?_ _
  refine NoPanic.normal ?_
  have HQ1 : Hid (Blk q 31 [.iface tx vx, .int .i64 n, .iface ty vy, .iface tz vz] u0b) := hH
  have HN : Hid (Nm B u0b v0b (xs ++ [98] ++ Lib.itoa n)) := K3
  have HF : Hid (Fr B w u0b) := hF2
  clear K3 hF2 hH
  have k0 := HQ1.out.cell (o := 0) rfl
  have k2 := HQ1.out.cell (o := 2) rfl
  have k3 := HQ1.out.cell (o := 3) rfl
  go_wp2_with fail
  refine (parts_c [.iface tx vx, .iface ty vy, .iface tz vz] [nx, ny, nz] 3 rfl rfl (by intro j v l h1 h2; match j with | 0 => simp at h1 h2; subst h1 h2; exact hx.out | 1 => simp at h1 h2; subst h1 h2; exact hy.out | 2 => simp at h1 h2; subst h1 h2; exact hz.out | j + 3 => simp at h1) (by decide) B _ _ _ _ (HN.out.alloc _) ((HF.out.alloc HS.out _).le HS.out) (by have h_ := HM.out; have it0 := Lib.itoa_length_le n n0 n1; simp [shN, chN, dgN, bxN, pre] at h_ ⊢; omega) (HT.out.on (HF.out.alloc HS.out _).bel) (Blk.new _ _ [.iface tx vx, .iface ty vy, .iface tz vz])).mono ?_
  rintro e z ⟨vv, rfl, K3, K4⟩
  replace HN : Hid (Nm B z vv ((xs ++ [98] ++ Lib.itoa n) ++ pre [nx, ny, nz] 3 ++ [41])) := K3
  replace HF : Hid (Fr B w z) := (HF.out.alloc HS.out _).trans K4
  clear K3 K4 k0 k2 k3
  go_wp2
  go_ret
  refine ⟨vv, rfl, ?_, HF.out⟩
  have e_ : xs ++ (bxN n nx ny nz) = (xs ++ [98] ++ Lib.itoa n) ++ pre [nx, ny, nz] 3 ++ [41] := by simp [shN, chN, dgN, bxN, pre, sep]
  rw [e_]
  exact HN.out
set_option maxRecDepth 8000 in
set_option maxHeartbeats 4000000 in
theorem wrote_Digest (tx : TypeId) (vx : Value) (nx : List UInt8) (ty : TypeId) (vy : Value) (ny : List UInt8) (px : Wrote (.iface tx vx) nx) (py : Wrote (.iface ty vy) ny) : Wrote (.iface 39 (.agg #[.iface tx vx, .iface ty vy])) (dgN nx ny) := by
  intro B sv xs w hown hB hlim ht
  have fEmpty := as_Digest_Empty (.agg #[.iface tx vx, .iface ty vy])
  have fAtom := as_Digest_Atom (.agg #[.iface tx vx, .iface ty vy])
  have fPublic := as_Digest_Public (.agg #[.iface tx vx, .iface ty vy])
  have fShared := as_Digest_Shared (.agg #[.iface tx vx, .iface ty vy])
  have fChain := as_Digest_Chain (.agg #[.iface tx vx, .iface ty vy])
  have fDigest := as_Digest_Digest (.agg #[.iface tx vx, .iface ty vy])
  have hx : Hid (Wrote (.iface tx vx) nx) := px
  have hy : Hid (Wrote (.iface ty vy) ny) := py
  have HT : Hid (Tab B w) := ht
  have HM : Hid (xs.length + (dgN nx ny).length + 64 ≤ 140737488355328) := hlim
  have HS : Hid (B ≤ w.heap.size) := hB
  have HN : Hid (Nm B w sv xs) := hown
  clear px py hown hlim ht hB
  have HQ0 : Hid (Blk w.heap.size 39 [.iface tx vx, .iface ty vy] (w.alloc (.cells #[.iface tx vx, .iface ty vy] 39))) := Blk.new w 39 [.iface tx vx, .iface ty vy]
  replace HN : Hid (Nm B (w.alloc (.cells #[.iface tx vx, .iface ty vy] 39)) sv xs) := HN.out.alloc _
  have HF : Hid (Fr B w (w.alloc (.cells #[.iface tx vx, .iface ty vy] 39))) := (Fr.refl B w).alloc HS.out _
  go_enter Tryd.func27, Tryd.ntmps27
  go_upto_region 24 with fail
  obtain ⟨W0, hW0⟩ : ∃ z, z = (w.alloc (.cells #[.iface tx vx, .iface ty vy] 39)) := ⟨_, rfl⟩
  obtain ⟨q, hq⟩ : ∃ z, z = w.heap.size := ⟨_, rfl⟩
  rw [← hW0, ← hq] at HQ0
  rw [← hW0] at HN HF
  rw [← hW0, ← hq]
  clear hW0 hq
  clear fEmpty fAtom fPublic fShared fChain fDigest
  refine wp_region_noPanic ?_
  refine wp_region_held_drew (S := Blk q 39 [.iface tx vx, .iface ty vy]) (by kernel_rfl) HQ0.out.drew (fun hH => ?_)
  change wpAnyH _ _ _ _ _ _ #[false, false, false, false, false, false, false, false, false, false] _ _
  refine wpAnyH_take (i := 0) (oi := ?o0d) (v := ?v0d) ?h0d (by kernel_rfl) ?f0d ?r0d (fun _ _ _ h => h) (Or.inl ⟨?w0d, ?y0d⟩) (by assumption) ?t0d
  case h0d => simp only [List.getElem?_toArray]; rfl
  case f0d => kernel_rfl
  case r0d => kernel_rfl
  case w0d => rfl
  case y0d => (intro u hu; (go_simp) <;> with_reducible rfl)
  try simp only [Act.put, List.setIfInBounds_toArray, List.set_cons_zero, List.set_cons_succ]
  refine wpAnyH_take (i := 3) (oi := ?o3d) (v := ?v3d) ?h3d (by kernel_rfl) ?f3d ?r3d (fun _ _ _ h => h) (Or.inl ⟨?w3d, ?y3d⟩) (by assumption) ?t3d
  case h3d => simp only [List.getElem?_toArray]; rfl
  case f3d => kernel_rfl
  case r3d => kernel_rfl
  case w3d => rfl
  case y3d => (intro u hu; (go_simp) <;> with_reducible rfl)
  try simp only [Act.put, List.setIfInBounds_toArray, List.set_cons_zero, List.set_cons_succ]
  refine wpAnyH_take (i := 4) (oi := ?o4d) (v := ?v4d) ?h4d (by kernel_rfl) ?f4d ?r4d (fun _ _ _ h => h) (Or.inl ⟨?w4d, ?y4d⟩) (by assumption) ?t4d
  case h4d => simp only [List.getElem?_toArray]; rfl
  case f4d => kernel_rfl
  case r4d => kernel_rfl
  case w4d => rfl
  case y4d => (intro u hu; (have hx := hu.cell (o := 0) rfl; go_simp) <;> with_reducible rfl)
  try simp only [Act.put, List.setIfInBounds_toArray, List.set_cons_zero, List.set_cons_succ]
  refine wpAnyH_take (i := 5) (oi := ?o5d) (v := ?v5d) ?h5d (by kernel_rfl) ?f5d ?r5d (fun _ _ _ h => h) (Or.inl ⟨?w5d, ?y5d⟩) (by assumption) ?t5d
  case h5d => simp only [List.getElem?_toArray]; rfl
  case f5d => kernel_rfl
  case r5d => kernel_rfl
  case w5d => rfl
  case y5d => (intro u hu; (go_simp) <;> with_reducible rfl)
  try simp only [Act.put, List.setIfInBounds_toArray, List.set_cons_zero, List.set_cons_succ]
  refine wpAnyH_take (i := 6) (oi := ?o6d) (v := ?v6d) ?h6d (by kernel_rfl) ?f6d ?r6d (fun _ _ _ h => h) (Or.inl ⟨?w6d, ?y6d⟩) (by assumption) ?t6d
  case h6d => simp only [List.getElem?_toArray]; rfl
  case f6d => kernel_rfl
  case r6d => kernel_rfl
  case w6d => rfl
  case y6d => (intro u hu; (have hx := hu.cell (o := 1) rfl; go_simp) <;> with_reducible rfl)
  try simp only [Act.put, List.setIfInBounds_toArray, List.set_cons_zero, List.set_cons_succ]
  have HN1 : Hid (Nm B W0.drew sv xs) := HN.out.drew
  have HF1 : Hid (Fr B w W0.drew) := HF.out.drew
  obtain ⟨X, hX⟩ : ∃ z, z = W0.drew := ⟨_, rfl⟩
  rw [← hX] at HN1 HF1 hH ⊢
  clear hX HN HF HQ0
  refine wpAnyH_ready (rs := [1, 7]) (by kernel_rfl) (by simp) ?_
  refine AllReadyH.cons (o := ?oa1) ?ha1 (fun K hK => ?_) (AllReadyH.cons (o := ?ob1) ?hb1 (fun K hK => ?_) AllReadyH.nil)
  case ha1 => simp only [List.getElem?_toArray]; rfl
  case hb1 => simp only [List.getElem?_toArray]; rfl
  · go_simp
    obtain ⟨X2, hX⟩ : ∃ z, z = X.alloc (.cells #[.int .u8 104] 5) := ⟨_, rfl⟩
    obtain ⟨g2, hg⟩ : ∃ z, z = X.heap.size := ⟨_, rfl⟩
    have hC : Blk g2 5 [.int .u8 104] X2 := by rw [hX, hg]; exact Blk.new _ _ _
    replace HN1 : Hid (Nm B X2 sv xs) := by rw [hX]; exact HN1.out.alloc _
    replace HF1 : Hid (Fr B w X2) := by rw [hX]; exact HF1.out.alloc HS.out _
    rw [← hX, ← hg]
    refine hK.out _ _ (by rw [hX]; exact hH.alloc _) (fun hH' => ?_)
    clear hK K hH hX hg
    have hH := hH'
    clear hH'
    try simp only [List.setIfInBounds_toArray, List.set]
    refine wpAnyH_ready (rs := [2, 7]) (by kernel_rfl) (by simp) ?_
    refine AllReadyH.cons (o := ?oa3) ?ha3 (fun K hK => ?_) (AllReadyH.cons (o := ?ob3) ?hb3 (fun K hK => ?_) AllReadyH.nil)
    case ha3 => simp only [List.getElem?_toArray]; rfl
    case hb3 => simp only [List.getElem?_toArray]; rfl
    · refine step_ab B _ _ 104 g2 _ HN1.out (HF1.out.le HS.out) (by have h_ := HM.out; have i1_ := Lib.itoa_length_le 0 (by decide) (by decide); simp only [shN, chN, dgN, bxN, List.length_append, List.length_cons, List.length_nil] at h_ ⊢; omega) (hC.cell (o := 0) rfl) (by rfl) _ _ (by rfl) (by rfl) (by rfl) ?_
      intro va X4 K1 K2
      replace HF1 : Hid (Fr B w X4) := HF1.out.trans K2
      replace HN1 : Hid (Nm B X4 va (xs ++ [104])) := K1
      refine hK.out _ _ (hH.fr (by decide) K2) (fun hH' => ?_)
      clear hK K hH hC K1 K2
      have hH := hH'
      clear hH'
      try simp only [List.setIfInBounds_toArray, List.set]
      refine wpAnyH_ready (rs := [7]) (by kernel_rfl) (by simp) ?_
      refine AllReadyH.cons (o := ?o5) ?h5 (fun K hK => ?_) AllReadyH.nil
      case h5 => simp only [List.getElem?_toArray]; rfl
      go_simp
      obtain ⟨X6, hX⟩ : ∃ z, z = X4.alloc (.cells #[.iface tx vx, .iface ty vy] 29) := ⟨_, rfl⟩
      obtain ⟨g6, hg⟩ : ∃ z, z = X4.heap.size := ⟨_, rfl⟩
      have hP : Blk g6 29 [.iface tx vx, .iface ty vy] X6 := by rw [hX, hg]; exact Blk.new _ _ _
      replace HN1 : Hid (Nm B X6 va (xs ++ [104])) := by rw [hX]; exact HN1.out.alloc _
      replace HF1 : Hid (Fr B w X6) := by rw [hX]; exact HF1.out.alloc HS.out _
      rw [← hX, ← hg]
      refine hK.out _ _ (by rw [hX]; exact hH.alloc _) (fun hH' => ?_)
      clear hK K hH hX hg
      have hH := hH'
      clear hH'
      try simp only [List.setIfInBounds_toArray, List.set]
      refine wpAnyH_ready (rs := [8]) (by kernel_rfl) (by simp) ?_
      refine AllReadyH.cons (o := ?o7) ?h7 (fun K hK => ?_) AllReadyH.nil
      case h7 => simp only [List.getElem?_toArray]; rfl
      go_simp
      refine (parts_c [.iface tx vx, .iface ty vy] [nx, ny] 2 rfl rfl (by intro j v l h1 h2; match j with | 0 => simp at h1 h2; subst h1 h2; exact hx.out | 1 => simp at h1 h2; subst h1 h2; exact hy.out | j + 2 => simp at h1) (by decide) B _ _ _ _ HN1.out (HF1.out.le HS.out) (by have h_ := HM.out; simp [shN, chN, dgN, bxN, pre] at h_ ⊢; omega) (HT.out.on HF1.out.bel) hP).mono ?_
      rintro e z ⟨vz, rfl, K3, K4⟩
      replace HN1 : Hid (Nm B z vz (xs ++ [104] ++ pre [nx, ny] 2 ++ [41])) := K3
      replace HF1 : Hid (Fr B w z) := HF1.out.trans K4
      refine hK.out _ _ (hH.fr (by decide) K4) (fun hH' => ?_)
      clear hK K hH hP K3 K4
      have hH := hH'
      clear hH'
      try simp only [List.setIfInBounds_toArray, List.set]
      refine wpAnyH_take (i := 9) (oi := ?o9e7) (v := ?v9e7) ?h9e7 (by kernel_rfl) ?f9e7 ?r9e7 (fun _ _ _ h => h) (Or.inl ⟨?w9e7, ?y9e7⟩) (by assumption) ?t9e7
      case h9e7 => simp only [List.getElem?_toArray]; rfl
      case f9e7 => kernel_rfl
      case r9e7 => kernel_rfl
      case w9e7 => rfl
      case y9e7 => (intro u hu; (go_simp) <;> with_reducible rfl)
      try simp only [Act.put, List.setIfInBounds_toArray, List.set_cons_zero, List.set_cons_succ]
      refine wpAnyH_done (by kernel_rfl) ?_ _
      refine NoPanic.normal ?_
      have HN := HN1
      have HF := HF1
      clear HN1 HF1
      go_wp2
      go_ret
      refine ⟨vz, rfl, ?_, HF.out⟩
      have e_ : xs ++ (dgN nx ny) = xs ++ [104] ++ pre [nx, ny] 2 ++ [41] := by simp [shN, chN, dgN, bxN, pre, sep]
      rw [e_]
      exact HN.out
    · go_simp
      obtain ⟨X8, hX⟩ : ∃ z, z = X2.alloc (.cells #[.iface tx vx, .iface ty vy] 29) := ⟨_, rfl⟩
      obtain ⟨g8, hg⟩ : ∃ z, z = X2.heap.size := ⟨_, rfl⟩
      have hP : Blk g8 29 [.iface tx vx, .iface ty vy] X8 := by rw [hX, hg]; exact Blk.new _ _ _
      replace HN1 : Hid (Nm B X8 sv xs) := by rw [hX]; exact HN1.out.alloc _
      replace HF1 : Hid (Fr B w X8) := by rw [hX]; exact HF1.out.alloc HS.out _
      replace hC : Blk g2 5 [.int .u8 104] X8 := by rw [hX]; exact hC.alloc _
      rw [← hX, ← hg]
      refine hK.out _ _ (by rw [hX]; exact hH.alloc _) (fun hH' => ?_)
      clear hK K hH hX hg
      have hH := hH'
      clear hH'
      try simp only [List.setIfInBounds_toArray, List.set]
      refine wpAnyH_ready (rs := [2]) (by kernel_rfl) (by simp) ?_
      refine AllReadyH.cons (o := ?o9) ?h9 (fun K hK => ?_) AllReadyH.nil
      case h9 => simp only [List.getElem?_toArray]; rfl
      refine step_ab B _ _ 104 g2 _ HN1.out (HF1.out.le HS.out) (by have h_ := HM.out; have i1_ := Lib.itoa_length_le 0 (by decide) (by decide); simp only [shN, chN, dgN, bxN, List.length_append, List.length_cons, List.length_nil] at h_ ⊢; omega) (hC.cell (o := 0) rfl) (by rfl) _ _ (by rfl) (by rfl) (by rfl) ?_
      intro va X10 K1 K2
      replace hP : Blk g8 29 [.iface tx vx, .iface ty vy] X10 := hP.fr (by decide) K2
      replace HF1 : Hid (Fr B w X10) := HF1.out.trans K2
      replace HN1 : Hid (Nm B X10 va (xs ++ [104])) := K1
      refine hK.out _ _ (hH.fr (by decide) K2) (fun hH' => ?_)
      clear hK K hH hC K1 K2
      have hH := hH'
      clear hH'
      try simp only [List.setIfInBounds_toArray, List.set]
      refine wpAnyH_ready (rs := [8]) (by kernel_rfl) (by simp) ?_
      refine AllReadyH.cons (o := ?o11) ?h11 (fun K hK => ?_) AllReadyH.nil
      case h11 => simp only [List.getElem?_toArray]; rfl
      go_simp
      refine (parts_c [.iface tx vx, .iface ty vy] [nx, ny] 2 rfl rfl (by intro j v l h1 h2; match j with | 0 => simp at h1 h2; subst h1 h2; exact hx.out | 1 => simp at h1 h2; subst h1 h2; exact hy.out | j + 2 => simp at h1) (by decide) B _ _ _ _ HN1.out (HF1.out.le HS.out) (by have h_ := HM.out; simp [shN, chN, dgN, bxN, pre] at h_ ⊢; omega) (HT.out.on HF1.out.bel) hP).mono ?_
      rintro e z ⟨vz, rfl, K3, K4⟩
      replace HN1 : Hid (Nm B z vz (xs ++ [104] ++ pre [nx, ny] 2 ++ [41])) := K3
      replace HF1 : Hid (Fr B w z) := HF1.out.trans K4
      refine hK.out _ _ (hH.fr (by decide) K4) (fun hH' => ?_)
      clear hK K hH hP K3 K4
      have hH := hH'
      clear hH'
      try simp only [List.setIfInBounds_toArray, List.set]
      refine wpAnyH_take (i := 9) (oi := ?o9e11) (v := ?v9e11) ?h9e11 (by kernel_rfl) ?f9e11 ?r9e11 (fun _ _ _ h => h) (Or.inl ⟨?w9e11, ?y9e11⟩) (by assumption) ?t9e11
      case h9e11 => simp only [List.getElem?_toArray]; rfl
      case f9e11 => kernel_rfl
      case r9e11 => kernel_rfl
      case w9e11 => rfl
      case y9e11 => (intro u hu; (go_simp) <;> with_reducible rfl)
      try simp only [Act.put, List.setIfInBounds_toArray, List.set_cons_zero, List.set_cons_succ]
      refine wpAnyH_done (by kernel_rfl) ?_ _
      refine NoPanic.normal ?_
      have HN := HN1
      have HF := HF1
      clear HN1 HF1
      go_wp2
      go_ret
      refine ⟨vz, rfl, ?_, HF.out⟩
      have e_ : xs ++ (dgN nx ny) = xs ++ [104] ++ pre [nx, ny] 2 ++ [41] := by simp [shN, chN, dgN, bxN, pre, sep]
      rw [e_]
      exact HN.out
  · go_simp
    obtain ⟨X12, hX⟩ : ∃ z, z = X.alloc (.cells #[.iface tx vx, .iface ty vy] 29) := ⟨_, rfl⟩
    obtain ⟨g12, hg⟩ : ∃ z, z = X.heap.size := ⟨_, rfl⟩
    have hP : Blk g12 29 [.iface tx vx, .iface ty vy] X12 := by rw [hX, hg]; exact Blk.new _ _ _
    replace HN1 : Hid (Nm B X12 sv xs) := by rw [hX]; exact HN1.out.alloc _
    replace HF1 : Hid (Fr B w X12) := by rw [hX]; exact HF1.out.alloc HS.out _
    rw [← hX, ← hg]
    refine hK.out _ _ (by rw [hX]; exact hH.alloc _) (fun hH' => ?_)
    clear hK K hH hX hg
    have hH := hH'
    clear hH'
    try simp only [List.setIfInBounds_toArray, List.set]
    refine wpAnyH_ready (rs := [1]) (by kernel_rfl) (by simp) ?_
    refine AllReadyH.cons (o := ?o13) ?h13 (fun K hK => ?_) AllReadyH.nil
    case h13 => simp only [List.getElem?_toArray]; rfl
    go_simp
    obtain ⟨X14, hX⟩ : ∃ z, z = X12.alloc (.cells #[.int .u8 104] 5) := ⟨_, rfl⟩
    obtain ⟨g14, hg⟩ : ∃ z, z = X12.heap.size := ⟨_, rfl⟩
    have hC : Blk g14 5 [.int .u8 104] X14 := by rw [hX, hg]; exact Blk.new _ _ _
    replace HN1 : Hid (Nm B X14 sv xs) := by rw [hX]; exact HN1.out.alloc _
    replace HF1 : Hid (Fr B w X14) := by rw [hX]; exact HF1.out.alloc HS.out _
    replace hP : Blk g12 29 [.iface tx vx, .iface ty vy] X14 := by rw [hX]; exact hP.alloc _
    rw [← hX, ← hg]
    refine hK.out _ _ (by rw [hX]; exact hH.alloc _) (fun hH' => ?_)
    clear hK K hH hX hg
    have hH := hH'
    clear hH'
    try simp only [List.setIfInBounds_toArray, List.set]
    refine wpAnyH_ready (rs := [2]) (by kernel_rfl) (by simp) ?_
    refine AllReadyH.cons (o := ?o15) ?h15 (fun K hK => ?_) AllReadyH.nil
    case h15 => simp only [List.getElem?_toArray]; rfl
    refine step_ab B _ _ 104 g14 _ HN1.out (HF1.out.le HS.out) (by have h_ := HM.out; have i1_ := Lib.itoa_length_le 0 (by decide) (by decide); simp only [shN, chN, dgN, bxN, List.length_append, List.length_cons, List.length_nil] at h_ ⊢; omega) (hC.cell (o := 0) rfl) (by rfl) _ _ (by rfl) (by rfl) (by rfl) ?_
    intro va X16 K1 K2
    replace hP : Blk g12 29 [.iface tx vx, .iface ty vy] X16 := hP.fr (by decide) K2
    replace HF1 : Hid (Fr B w X16) := HF1.out.trans K2
    replace HN1 : Hid (Nm B X16 va (xs ++ [104])) := K1
    refine hK.out _ _ (hH.fr (by decide) K2) (fun hH' => ?_)
    clear hK K hH hC K1 K2
    have hH := hH'
    clear hH'
    try simp only [List.setIfInBounds_toArray, List.set]
    refine wpAnyH_ready (rs := [8]) (by kernel_rfl) (by simp) ?_
    refine AllReadyH.cons (o := ?o17) ?h17 (fun K hK => ?_) AllReadyH.nil
    case h17 => simp only [List.getElem?_toArray]; rfl
    go_simp
    refine (parts_c [.iface tx vx, .iface ty vy] [nx, ny] 2 rfl rfl (by intro j v l h1 h2; match j with | 0 => simp at h1 h2; subst h1 h2; exact hx.out | 1 => simp at h1 h2; subst h1 h2; exact hy.out | j + 2 => simp at h1) (by decide) B _ _ _ _ HN1.out (HF1.out.le HS.out) (by have h_ := HM.out; simp [shN, chN, dgN, bxN, pre] at h_ ⊢; omega) (HT.out.on HF1.out.bel) hP).mono ?_
    rintro e z ⟨vz, rfl, K3, K4⟩
    replace HN1 : Hid (Nm B z vz (xs ++ [104] ++ pre [nx, ny] 2 ++ [41])) := K3
    replace HF1 : Hid (Fr B w z) := HF1.out.trans K4
    refine hK.out _ _ (hH.fr (by decide) K4) (fun hH' => ?_)
    clear hK K hH hP K3 K4
    have hH := hH'
    clear hH'
    try simp only [List.setIfInBounds_toArray, List.set]
    refine wpAnyH_take (i := 9) (oi := ?o9e17) (v := ?v9e17) ?h9e17 (by kernel_rfl) ?f9e17 ?r9e17 (fun _ _ _ h => h) (Or.inl ⟨?w9e17, ?y9e17⟩) (by assumption) ?t9e17
    case h9e17 => simp only [List.getElem?_toArray]; rfl
    case f9e17 => kernel_rfl
    case r9e17 => kernel_rfl
    case w9e17 => rfl
    case y9e17 => (intro u hu; (go_simp) <;> with_reducible rfl)
    try simp only [Act.put, List.setIfInBounds_toArray, List.set_cons_zero, List.set_cons_succ]
    refine wpAnyH_done (by kernel_rfl) ?_ _
    refine NoPanic.normal ?_
    have HN := HN1
    have HF := HF1
    clear HN1 HF1
    go_wp2
    go_ret
    refine ⟨vz, rfl, ?_, HF.out⟩
    have e_ : xs ++ (dgN nx ny) = xs ++ [104] ++ pre [nx, ny] 2 ++ [41] := by simp [shN, chN, dgN, bxN, pre, sep]
    rw [e_]
    exact HN.out
end Go.Proofs.YtifcdmiopanedaaDoor
