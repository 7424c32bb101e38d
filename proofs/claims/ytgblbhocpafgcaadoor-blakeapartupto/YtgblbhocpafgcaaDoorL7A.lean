/-
  BlakeApart's walk. No statement of the seat is proved here.
-/
import Derived.Test.YtgblbhocpafgcaaDoorBKn
import Derived.Test.YtgblbhocpafgcaaDoorKApp
import Derived.Test.YtgblbhocpafgcaaDoorL7P
namespace Go.Proofs.YtgblbhocpafgcaaDoor
open Go.RowKit

/-- Two slices of one's own lie apart. -/
def Apart2 (p q : Value) : Prop := ∀ g, p.ownBlock = some g → q.ownBlock ≠ some g
theorem apart_kept {p q : Value} (h : Apart2 p q) : q.ownBlock = none ∨ q.ownBlock ≠ p.ownBlock := by
  cases hq : q.ownBlock with
  | none => exact .inl rfl
  | some g => exact .inr (fun e => h g e.symm hq)
theorem apart_kept' {p q : Value} (h : Apart2 p q) : p.ownBlock = none ∨ p.ownBlock ≠ q.ownBlock := by
  cases hp : p.ownBlock with
  | none => exact .inl rfl
  | some g => exact .inr (fun e => h g hp e.symm)
structure Mt (w : World) (base bx by' : Nat) (pv : Value) (np : Nat) (P PX : List Int) (qv : Value) (nq : Nat) (Q QX : List Int) (u : World) : Prop where
  p : u.ownsRow base 5 1 pv np (List.map (Value.int .u8) P)
  q : u.ownsRow base 5 1 qv nq (List.map (Value.int .u8) Q)
  bp : Byt P
  bq : Byt Q
  ap : Apart2 pv qv
  x : Hx u bx PX
  y : Hx u by' QX
  bel : Below w.heap.size w u
  le : base ≤ u.heap.size
  l0 : w.heap.size ≤ base
  l1 : bx < base
  l2 : by' < base
  l3 : bx ≠ by'
  l4 : w.heap.size ≤ bx
  l5 : w.heap.size ≤ by'
section
variable {w u u' : World} {base bx by' : Nat} {pv : Value} {np : Nat} {P PX : List Int} {qv : Value} {nq : Nat} {Q QX : List Int}
theorem own_later {base n : Nat} {v : Value} {xs : List Value} (h : u.ownsRow base 5 1 v n xs) (hb : Below u.heap.size u u') : u'.ownsRow base 5 1 v n xs :=
  h.kept (w' := u') (row := none) ⟨hb.os, hb.tape, hb.output, hb.size, fun k hk _ => hb.block k hk⟩ (by cases v.ownBlock <;> simp)
theorem own_extb {base n b : Nat} {v : Value} {xs : List Value} (h : u.ownsRow base 5 1 v n xs) (hb : ExtB b u u') (hlt : b < base) : u'.ownsRow base 5 1 v n xs :=
  h.kept (w' := u') (row := some b) ⟨hb.os, hb.tape, hb.output, hb.size, fun k hk hne => hb.block k hk (fun e => hne (by rw [e]))⟩ (by
    cases hv : v.ownBlock with
    | none => exact .inl rfl
    | some g => exact .inr (fun e => by have := (h.lt g hv).1; cases e; omega))
theorem Mt.later (h : Mt w base bx by' pv np P PX qv nq Q QX u) (hb : Below u.heap.size u u') : Mt w base bx by' pv np P PX qv nq Q QX u' :=
  ⟨own_later h.p hb, own_later h.q hb, h.bp, h.bq, h.ap, h.x.later hb, h.y.later hb, h.bel.trans (hb.mono h.bel.size), Nat.le_trans h.le hb.size, h.l0, h.l1, h.l2, h.l3, h.l4, h.l5⟩
theorem Mt.extX (h : Mt w base bx by' pv np P PX qv nq Q QX u) {X : List Int} (hx : Hx u' bx X) (hb : ExtB bx u u') : Mt w base bx by' pv np P X qv nq Q QX u' :=
  ⟨own_extb h.p hb h.l1, own_extb h.q hb h.l1, h.bp, h.bq, h.ap, hx, h.y.extb hb (Ne.symm h.l3), hb.below h.bel h.l4, Nat.le_trans h.le hb.size, h.l0, h.l1, h.l2, h.l3, h.l4, h.l5⟩
theorem Mt.extY (h : Mt w base bx by' pv np P PX qv nq Q QX u) {X : List Int} (hx : Hx u' by' X) (hb : ExtB by' u u') : Mt w base bx by' pv np P PX qv nq Q X u' :=
  ⟨own_extb h.p hb h.l2, own_extb h.q hb h.l2, h.bp, h.bq, h.ap, h.x.extb hb h.l3, hx, hb.below h.bel h.l5, Nat.le_trans h.le hb.size, h.l0, h.l1, h.l2, h.l3, h.l4, h.l5⟩
theorem Mt.appP (h : Mt w base bx by' pv np P PX qv nq Q QX u) {v' : Value} {m : Nat} {X : List Int} (ho : u'.ownsRow base 5 1 v' (np + m) (List.map (Value.int .u8) (P ++ X))) (hg : u.grownBy u' pv.ownBlock) (ha : v'.ownBlock = pv.ownBlock ∨ v'.ownBlock = some u.heap.size) (hX : Byt X) : Mt w base bx by' v' (np + m) (P ++ X) PX qv nq Q QX u' :=
  ⟨ho, h.q.kept hg (apart_kept h.ap), h.bp.app hX, h.bq, fun g hg' => by
    rcases ha with ha | ha
    · exact h.ap g (ha ▸ hg')
    · intro hq
      have := (h.q.lt g hq).2
      rw [ha] at hg'
      cases hg'
      omega, h.x.grown hg (fun k hk e => by have := (h.p.lt k hk).1; have := h.l1; omega), h.y.grown hg (fun k hk e => by have := (h.p.lt k hk).1; have := h.l2; omega),
    h.bel.trans (below_gb hg h.bel.size (fun k hk => by have := (h.p.lt k hk).1; have := h.l0; omega)), Nat.le_trans h.le hg.size, h.l0, h.l1, h.l2, h.l3, h.l4, h.l5⟩
theorem Mt.appQ (h : Mt w base bx by' pv np P PX qv nq Q QX u) {v' : Value} {m : Nat} {X : List Int} (ho : u'.ownsRow base 5 1 v' (nq + m) (List.map (Value.int .u8) (Q ++ X))) (hg : u.grownBy u' qv.ownBlock) (ha : v'.ownBlock = qv.ownBlock ∨ v'.ownBlock = some u.heap.size) (hX : Byt X) : Mt w base bx by' pv np P PX v' (nq + m) (Q ++ X) QX u' :=
  ⟨h.p.kept hg (apart_kept' h.ap), ho, h.bp, h.bq.app hX, fun g hp hq => by
    rcases ha with ha | ha
    · exact h.ap g hp (ha ▸ hq)
    · have := (h.p.lt g hp).2
      rw [ha] at hq
      cases hq
      omega, h.x.grown hg (fun k hk e => by have := (h.q.lt k hk).1; have := h.l1; omega), h.y.grown hg (fun k hk e => by have := (h.q.lt k hk).1; have := h.l2; omega),
    h.bel.trans (below_gb hg h.bel.size (fun k hk => by have := (h.q.lt k hk).1; have := h.l0; omega)), Nat.le_trans h.le hg.size, h.l0, h.l1, h.l2, h.l3, h.l4, h.l5⟩
end
theorem take_next (L : List (List Int)) (k : Nat) : (L.take (k + 1)).flatten = (L.take k).flatten ++ L[k]?.getD [] := by
  by_cases h : k < L.length
  · exact flat_succ L k h
  · rw [List.take_of_length_le (by omega), List.take_of_length_le (by omega), List.getElem?_eq_none (by omega)]
    simp
theorem take_small (L : List (List Int)) (k : Nat) (h : L.flatten.length ≤ 1048576) : (L.take k).flatten.length ≤ 1048576 := Nat.le_trans (flen_le L k) h
set_option maxRecDepth 8000 in
set_option maxHeartbeats 8000000 in
theorem blakeApart_walk (aa : Option Addr) (la ca : Nat) (La : List (List Int)) (ab : Option Addr) (lb cb : Nat) (Lb : List (List Int)) (w : World) (hra : RdL w aa la La) (hrb : RdL w ab lb Lb) (hta : La.flatten.length ≤ 1048576) (htb : Lb.flatten.length ≤ 1048576) (hg : Gb w) :
    Calls Tryd.prog 6 #[.slice aa la ca, .slice ab lb cb] w fun e w' => e = .returned (.bool true) ∧ Below w.heap.size w w' := by
  have HA : Hid (RdL w aa la La) := hra
  have HB' : Hid (RdL w ab lb Lb) := hrb
  have HG : Hid (Gb w) := hg
  have g0 := hg.ivlt
  have g1 := hg.sglt
  have HTA : Hid (La.flatten.length ≤ 1048576) := hta
  have HTB : Hid (Lb.flatten.length ≤ 1048576) := htb
  clear hra hrb hg hta htb
  go_enter Tryd.func6, Tryd.ntmps6
  go_wp2_with fail
  refine (new_c _ HG.out).mono ?_
  rintro e V0 ⟨rfl, HX, hb⟩
  obtain ⟨bx, hbx⟩ : ∃ q, q = w.heap.size := ⟨_, rfl⟩
  rw [← hbx] at HX ⊢
  have HBX : Hid (bx = w.heap.size) := hbx
  have HB : Hid (Below w.heap.size w V0) := hb
  have hl1 : bx < V0.heap.size := HX.out.lt
  clear hb hbx
  go_wp2_with fail
  refine (new_c _ (HG.out.later HB.out)).mono ?_
  rintro e V1 ⟨rfl, HY, hb⟩
  obtain ⟨by', hby⟩ : ∃ q, q = V0.heap.size := ⟨_, rfl⟩
  rw [← hby] at HY ⊢
  have HBY : Hid (by' = V0.heap.size) := hby
  replace HX : Hid (Hx V1 bx []) := HX.out.later hb
  replace HB : Hid (Below w.heap.size w V1) := HB.out.trans (hb.mono HB.out.size)
  rw [← hby] at hl1
  clear hb hby
  go_wp2_with fail
  refine (known7_any _ (HG.out.later HB.out)).mono ?_
  rintro e V2 ⟨rfl, hb⟩
  replace HX : Hid (Hx V2 bx []) := HX.out.later hb
  replace HY : Hid (Hx V2 by' []) := HY.out.later hb
  replace HB : Hid (Below w.heap.size w V2) := HB.out.trans (hb.mono HB.out.size)
  obtain ⟨base, hba⟩ : ∃ q, q = V2.heap.size := ⟨_, rfl⟩
  have hl2 : by' < base := by rw [hba]; exact HY.out.lt
  have hl3 : w.heap.size ≤ bx := by have := HBX.out; omega
  have HM0 : Hid (Mt w base bx by' (.slice none 0 0) 0 [] [] (.slice none 0 0) 0 [] [] V2) := ⟨World.ownsRow_nil _ _ _ _, World.ownsRow_nil _ _ _ _, Byt.nil, Byt.nil, (fun g h => by cases h), HX.out, HY.out, HB.out, by omega, by omega, by omega, hl2, by omega, hl3, by omega⟩
  clear hba HX HY HB hb
  go_wp2
  go_loopw [7, 8, 9] (fun pv qv iv wr => ∃ (k np nq : Nat) (P Q : List Int), iv = .int .i64 k ∧ k ≤ 12 ∧ Hid (P = (La.take k).flatten) ∧ Hid (Q = (Lb.take k).flatten) ∧ Hid (Mt w base bx by' pv np P P qv nq Q Q wr)) (fun _ _ iv _ => 12 - (intOf iv).toNat)
  case atStart => exact ⟨0, 0, 0, [], [], rfl, by decide, rfl, rfl, HM0⟩
  case round =>
    clear HM0
    obtain ⟨k, np, nq, P, Q, rfl, hk, HP, HQ, HM⟩ := hrel
    obtain ⟨pv, hpv⟩ : ∃ v, v = u7 := ⟨_, rfl⟩
    obtain ⟨qv, hqv⟩ : ∃ v, v = u8 := ⟨_, rfl⟩
    rw [← hpv, ← hqv]
    rw [← hpv, ← hqv] at HM
    clear hpv hqv
    by_cases hlt : k < 12
    · have c1 : (k : Int) < 12 := by omega
      obtain ⟨X, hX⟩ : ∃ x, x = La[k]?.getD [] := ⟨_, rfl⟩
      have HXX : Hid (X = La[k]?.getD []) := hX
      clear hX
      go_upto_if 29 with fail
      go_cut [7] from 22 to 71 (fun pv' wx => ∃ n', Hid (Mt w base bx by' pv' n' (P ++ X) (P ++ X) qv nq Q Q wx))
      case first =>
        by_cases h1 : k < la
        · have q1 : (k : Int) < la := by omega
          obtain ⟨bL, off, hae, hc⟩ := HA.out.cell (by omega)
          obtain ⟨ai, ni, ci, cc, hrd⟩ := hc k h1
          have HRD : Hid (Rd w ai ni ci X) := by rw [HXX.out]; exact hrd
          have cx := cell_later HM.out.bel cc
          have hbd : P.length + ni ≤ 1048576 := by
            have h := flen_le La (k + 1)
            rw [flen_succ La k (by rw [HA.out.hlen]; exact h1), hrd.hlen] at h
            unfold flen at h
            rw [← HP.out] at h
            have := HTA.out
            omega
          clear hrd hc
          subst hae
          go_wp2_with fail
          refine (write_c bx _ ai ni ci X _ HM.out.x (HG.out.later HM.out.bel) (by omega) (by omega) (HRD.out.below HM.out.bel) (fun h0 j hj => by obtain ⟨b', o', ha, hc⟩ := HRD.out.cell h0; rw [ha] at hj; cases hj; have := World.block_lt_of_cell? w _ (hc 0 h0); dsimp only at *; omega) (by omega)).mono ?_
          rintro e V ⟨rfl, HX2, hb⟩
          have cx := cell_later (hb.below HM.out.bel (by omega)) cc
          replace HM : Hid (Mt w base bx by' pv np P (P ++ X) qv nq Q Q V) := HM.out.extX HX2.out hb
          clear hb HX2
          go_wp2_with (at_builtin; refine wpList_app_at rfl (.tmp 36) (.tmp 40) rfl base pv np P rfl HM.out.p ai ni ci X rfl (HRD.out.below HM.out.bel) (by have := HM.out.p.1; simp at this; omega) HM.out.le ?_)
          intro v' w' hown hgr hap
          rw [← List.map_append] at hown
          have HM2 : Hid (Mt w base bx by' v' (np + ni) (P ++ X) (P ++ X) qv nq Q Q w') := HM.out.appP hown hgr hap (HRD.out.byt)
          clear hown hgr hap HM cx cc
          go_wp2_with fail
          go_meet
          case rel => exact ⟨_, HM2⟩
        · have q1 : ¬ (k : Int) < la := by omega
          have e : X = [] := by rw [HXX.out, List.getElem?_eq_none (by rw [HA.out.hlen]; omega)]; rfl
          go_wp2_with fail
          go_meet
          case rel => exact ⟨_, by rw [e, List.append_nil]; exact HM⟩
      case rest =>
        obtain ⟨n2, HM2⟩ := hcut
        obtain ⟨P2, hP2⟩ : ∃ l, l = P ++ X := ⟨_, rfl⟩
        rw [← hP2] at HM2
        have HP2 : Hid (P2 = (La.take (k + 1)).flatten) := by unfold Hid; rw [hP2, take_next, ← HP.out, ← HXX.out]
        clear hP2 HM HP HXX
        obtain ⟨pv, hpv⟩ : ∃ v, v = u7 := ⟨_, rfl⟩
        rw [← hpv] at HM2 ⊢
        clear hpv
        obtain ⟨np, hnp⟩ : ∃ v, v = n2 := ⟨_, rfl⟩
        rw [← hnp] at HM2
        clear hnp
        obtain ⟨P, hP⟩ : ∃ v, v = P2 := ⟨_, rfl⟩
        rw [← hP] at HM2 HP2
        clear hP
        have HP : Hid (P = (La.take (k + 1)).flatten) := HP2
        have HM : Hid (Mt w base bx by' pv np P P qv nq Q Q wc) := HM2
        clear HM2 HP2 n2 P2
        obtain ⟨X, hX⟩ : ∃ x, x = Lb[k]?.getD [] := ⟨_, rfl⟩
        have HXX : Hid (X = Lb[k]?.getD []) := hX
        clear hX
        go_upto_if 45 with fail
        go_cut [8] from 22 to 71 (fun qv' wx => ∃ n', Hid (Mt w base bx by' pv np P P qv' n' (Q ++ X) (Q ++ X) wx))
        case first =>
          by_cases h1 : k < lb
          · have q1 : (k : Int) < lb := by omega
            obtain ⟨bL, off, hae, hc⟩ := HB'.out.cell (by omega)
            obtain ⟨ai, ni, ci, cc, hrd⟩ := hc k h1
            have HRD : Hid (Rd w ai ni ci X) := by rw [HXX.out]; exact hrd
            have cx := cell_later HM.out.bel cc
            have hbd : Q.length + ni ≤ 1048576 := by
              have h := flen_le Lb (k + 1)
              rw [flen_succ Lb k (by rw [HB'.out.hlen]; exact h1), hrd.hlen] at h
              unfold flen at h
              rw [← HQ.out] at h
              have := HTB.out
              omega
            clear hrd hc
            subst hae
            go_wp2_with fail
            refine (write_c by' _ ai ni ci X _ HM.out.y (HG.out.later HM.out.bel) (by omega) (by omega) (HRD.out.below HM.out.bel) (fun h0 j hj => by obtain ⟨b', o', ha, hc⟩ := HRD.out.cell h0; rw [ha] at hj; cases hj; have := World.block_lt_of_cell? w _ (hc 0 h0); dsimp only at *; omega) (by omega)).mono ?_
            rintro e V ⟨rfl, HX2, hb⟩
            have cx := cell_later (hb.below HM.out.bel (by omega)) cc
            replace HM : Hid (Mt w base bx by' pv np P P qv nq Q (Q ++ X) V) := HM.out.extY HX2.out hb
            clear hb HX2
            go_wp2_with (at_builtin; refine wpList_app_at rfl (.tmp 52) (.tmp 56) rfl base qv nq Q rfl HM.out.q ai ni ci X rfl (HRD.out.below HM.out.bel) (by have := HM.out.q.1; simp at this; omega) HM.out.le ?_)
            intro v' w' hown hgr hap
            rw [← List.map_append] at hown
            have HM2 : Hid (Mt w base bx by' pv np P P v' (nq + ni) (Q ++ X) (Q ++ X) w') := HM.out.appQ hown hgr hap (HRD.out.byt)
            clear hown hgr hap HM cx cc
            go_wp2_with fail
            go_meet
            case rel => exact ⟨_, HM2⟩
          · have q1 : ¬ (k : Int) < lb := by omega
            have e : X = [] := by rw [HXX.out, List.getElem?_eq_none (by rw [HB'.out.hlen]; omega)]; rfl
            go_wp2_with fail
            go_meet
            case rel => exact ⟨_, by rw [e, List.append_nil]; exact HM⟩
        case rest =>
          obtain ⟨n2, HM2⟩ := hcut
          obtain ⟨P2, hP2⟩ : ∃ l, l = Q ++ X := ⟨_, rfl⟩
          rw [← hP2] at HM2
          have HP2 : Hid (P2 = (Lb.take (k + 1)).flatten) := by unfold Hid; rw [hP2, take_next, ← HQ.out, ← HXX.out]
          clear hP2 HM HQ HXX
          obtain ⟨qv, hpv⟩ : ∃ v, v = u8 := ⟨_, rfl⟩
          rw [← hpv] at HM2 ⊢
          clear hpv
          obtain ⟨nq, hnp⟩ : ∃ v, v = n2 := ⟨_, rfl⟩
          rw [← hnp] at HM2
          clear hnp
          obtain ⟨Q, hP⟩ : ∃ v, v = P2 := ⟨_, rfl⟩
          rw [← hP] at HM2 HP2
          clear hP
          have HQ : Hid (Q = (Lb.take (k + 1)).flatten) := HP2
          have HM : Hid (Mt w base bx by' pv np P P qv nq Q Q wc) := HM2
          clear HM2 HP2 n2 P2
          have hPl : P.length ≤ 1048576 := by rw [HP.out]; exact take_small La _ HTA.out
          have hQl : Q.length ≤ 1048576 := by rw [HQ.out]; exact take_small Lb _ HTB.out
          go_wp2_with fail
          refine (sumh_c bx P _ HM.out.x (HG.out.later HM.out.bel) (by omega)).mono ?_
          rintro e V1 ⟨S1, rfl, HS1, hb⟩
          replace HM : Hid (Mt w base bx by' pv np P P qv nq Q Q V1) := HM.out.later hb
          have hS1n : Bn 32 S1 := by rw [HS1.out]; exact sum7_bn _
          clear hb
          obtain ⟨ap, cp, rfl⟩ := owns_sh HM.out.p
          have hb1 := bel1 V1 (.cells #[.slice ap np cp] 28)
          have Y1 : Hid (RdL (V1.alloc (.cells #[.slice ap np cp] 28)) (some ⟨V1.heap.size, 0, none⟩) 1 [P]) := RdL.one V1 _ np cp _ 28 (rd_own HM.out.bp HM.out.p)
          replace HM : Hid (Mt w base bx by' (.slice ap np cp) np P P qv nq Q Q (V1.alloc (.cells #[.slice ap np cp] 28))) := HM.out.later hb1
          clear hb1
          go_wp2_with fail
          refine (sum_c (some ⟨V1.heap.size, 0, none⟩) 1 1 [P] _ Y1.out (HG.out.later HM.out.bel) (by decide) (by simp only [List.flatten_cons, List.flatten_nil, List.append_nil]; omega)).mono ?_
          rintro e V2 ⟨S2, rfl, HS2, hb⟩
          replace HM : Hid (Mt w base bx by' (.slice ap np cp) np P P qv nq Q Q V2) := HM.out.later hb
          have hne1 : ∀ u, Sem.run Tryd.prog (binOp .neq 25 (.agg (List.map (Value.int .u8) S1).toArray) (.agg (List.map (Value.int .u8) S2).toArray)) u = .ok (.bool false) u := fun u => neq32 S1 S2 hS1n (by rw [HS1.out, HS2.out]; simp) u
          clear hb Y1
          go_wp2_with fail
          refine (sumh_c by' Q _ HM.out.y (HG.out.later HM.out.bel) (by omega)).mono ?_
          rintro e V3 ⟨S3, rfl, HS3, hb⟩
          replace HM : Hid (Mt w base bx by' (.slice ap np cp) np P P qv nq Q Q V3) := HM.out.later hb
          have hS3n : Bn 32 S3 := by rw [HS3.out]; exact sum7_bn _
          clear hb hne1 HS1 HS2 hS1n
          obtain ⟨aq, cq, rfl⟩ := owns_sh HM.out.q
          have hb1 := bel1 V3 (.cells #[.slice aq nq cq] 28)
          have Y1 : Hid (RdL (V3.alloc (.cells #[.slice aq nq cq] 28)) (some ⟨V3.heap.size, 0, none⟩) 1 [Q]) := RdL.one V3 _ nq cq _ 28 (rd_own HM.out.bq HM.out.q)
          replace HM : Hid (Mt w base bx by' (.slice ap np cp) np P P (.slice aq nq cq) nq Q Q (V3.alloc (.cells #[.slice aq nq cq] 28))) := HM.out.later hb1
          clear hb1
          go_wp2_with fail
          refine (sum_c (some ⟨V3.heap.size, 0, none⟩) 1 1 [Q] _ Y1.out (HG.out.later HM.out.bel) (by decide) (by simp only [List.flatten_cons, List.flatten_nil, List.append_nil]; omega)).mono ?_
          rintro e V4 ⟨S4, rfl, HS4, hb⟩
          replace HM : Hid (Mt w base bx by' (.slice ap np cp) np P P (.slice aq nq cq) nq Q Q V4) := HM.out.later hb
          have hne2 : ∀ u, Sem.run Tryd.prog (binOp .neq 25 (.agg (List.map (Value.int .u8) S3).toArray) (.agg (List.map (Value.int .u8) S4).toArray)) u = .ok (.bool false) u := fun u => neq32 S3 S4 hS3n (by rw [HS3.out, HS4.out]; simp) u
          clear hb Y1
          go_wp2
          go_roundw
          case rel => exact ⟨k + 1, np, nq, P, Q, by go_num, by omega, HP, HQ, HM⟩
          case measure => simp [intOf]; omega
    · have c1 : ¬ (k : Int) < 12 := by omega
      have hPl : P.length ≤ 1048576 := by rw [HP.out]; exact take_small La _ HTA.out
      have hnp : P.length = np := by have := HM.out.p.1; simpa using this
      obtain ⟨ap, cp, rfl⟩ := owns_sh HM.out.p
      go_upto_region 17 with fail
      refine wp_region_noPanic ?_
      refine wp_region_held_drew (S := Ext wr) (by kernel_rfl) (Ext.refl _).drew (fun hH => ?_)
      change wpAnyH _ _ _ _ _ _ #[false, false, false, false, false, false, false, false, false] _ _
      refine wpAnyH_take (i := 0) (oi := ?o0z) (v := ?v0z) ?h0z (by kernel_rfl) ?f0z ?r0z (fun _ _ _ h => h) (Or.inl ⟨?w0z, ?y0z⟩) (by assumption) ?t0z
      case h0z => simp only [List.getElem?_toArray]; rfl
      case f0z => kernel_rfl
      case r0z => kernel_rfl
      case w0z => rfl
      case y0z => (intro u hu; (go_simp) <;> with_reducible rfl)
      try simp only [Act.put, List.setIfInBounds_toArray, List.set_cons_zero, List.set_cons_succ]
      refine wpAnyH_take (i := 1) (oi := ?o1z) (v := ?v1z) ?h1z (by kernel_rfl) ?f1z ?r1z (fun _ _ _ h => h) (Or.inl ⟨?w1z, ?y1z⟩) (by assumption) ?t1z
      case h1z => simp only [List.getElem?_toArray]; rfl
      case f1z => kernel_rfl
      case r1z => kernel_rfl
      case w1z => rfl
      case y1z => (intro u hu; (go_simp) <;> with_reducible rfl)
      try simp only [Act.put, List.setIfInBounds_toArray, List.set_cons_zero, List.set_cons_succ]
      refine wpAnyH_take (i := 2) (oi := ?o2z) (v := ?v2z) ?h2z (by kernel_rfl) ?f2z ?r2z (fun _ _ _ h => h) (Or.inl ⟨?w2z, ?y2z⟩) (by assumption) ?t2z
      case h2z => simp only [List.getElem?_toArray]; rfl
      case f2z => kernel_rfl
      case r2z => kernel_rfl
      case w2z => rfl
      case y2z => (intro u hu; (go_simp) <;> with_reducible rfl)
      try simp only [Act.put, List.setIfInBounds_toArray, List.set_cons_zero, List.set_cons_succ]
      refine wpAnyH_take (i := 5) (oi := ?o5z) (v := ?v5z) ?h5z (by kernel_rfl) ?f5z ?r5z (fun _ _ _ h => h) (Or.inl ⟨?w5z, ?y5z⟩) (by assumption) ?t5z
      case h5z => simp only [List.getElem?_toArray]; rfl
      case f5z => kernel_rfl
      case r5z => kernel_rfl
      case w5z => rfl
      case y5z => (intro u hu; (go_simp) <;> with_reducible rfl)
      try simp only [Act.put, List.setIfInBounds_toArray, List.set_cons_zero, List.set_cons_succ]
      have sx := fun u (hu : Ext wr u) => str_of ((rd_own HM.out.bp HM.out.p).below hu)
      refine wpAnyH_take (i := 6) (oi := ?o6z) (v := ?v6z) ?h6z (by kernel_rfl) ?f6z ?r6z (fun _ _ _ h => h) (Or.inl ⟨?w6z, ?y6z⟩) (by assumption) ?t6z
      case h6z => simp only [List.getElem?_toArray]; rfl
      case f6z => kernel_rfl
      case r6z => kernel_rfl
      case w6z => rfl
      case y6z => (intro u hu; (have hx := sx u hu; go_simp) <;> with_reducible rfl)
      try simp only [Act.put, List.setIfInBounds_toArray, List.set_cons_zero, List.set_cons_succ]
      refine wpAnyH_ready (rs := [3]) (by kernel_rfl) (by simp) ?_
      refine AllReadyH.cons (o := ?o3z) ?h3z (fun K hK => ?_) AllReadyH.nil
      case h3z => simp only [List.getElem?_toArray]; rfl
      go_simp
      refine (few_s ap np cp P _ ((rd_own HM.out.bp HM.out.p).below hH) (by omega)).mono ?_
      rintro e V ⟨af, cf, rfl, HF, hb⟩
      have sf := str_of HF.out
      refine hK.out _ _ (hH.trans hb) (fun hH' => ?_)
      clear hK K hH
      have hH := hH'
      clear hH'
      try simp only [List.setIfInBounds_toArray, List.set]
      refine wpAnyH_ready (rs := [4]) (by kernel_rfl) (by simp) ?_
      refine AllReadyH.cons (o := ?o4z) ?h4z (fun K hK => ?_) AllReadyH.nil
      case h4z => simp only [List.getElem?_toArray]; rfl
      go_simp
      refine hK.out _ _ hH (fun hH' => ?_)
      clear hK K hH
      have hH := hH'
      clear hH'
      try simp only [List.setIfInBounds_toArray, List.set]
      refine wpAnyH_take (i := 7) (oi := ?o7z) (v := ?v7z) ?h7z (by kernel_rfl) ?f7z ?r7z (fun _ _ _ h => h) (Or.inl ⟨?w7z, ?y7z⟩) (by assumption) ?t7z
      case h7z => simp only [List.getElem?_toArray]; rfl
      case f7z => kernel_rfl
      case r7z => kernel_rfl
      case w7z => rfl
      case y7z => (intro u hu; (go_simp) <;> with_reducible rfl)
      try simp only [Act.put, List.setIfInBounds_toArray, List.set_cons_zero, List.set_cons_succ]
      refine wpAnyH_take (i := 8) (oi := ?o8z) (v := ?v8z) ?h8z (by kernel_rfl) ?f8z ?r8z (fun _ _ _ h => h) (Or.inl ⟨?w8z, ?y8z⟩) (by assumption) ?t8z
      case h8z => simp only [List.getElem?_toArray]; rfl
      case f8z => kernel_rfl
      case r8z => kernel_rfl
      case w8z => rfl
      case y8z => (intro u hu; (go_simp) <;> with_reducible rfl)
      try simp only [Act.put, List.setIfInBounds_toArray, List.set_cons_zero, List.set_cons_succ]
      refine wpAnyH_done (by kernel_rfl) ?_ _
      refine NoPanic.normal ?_
      go_wp2
      go_ret
      exact ⟨rfl, HM.out.bel.trans (Below.mono hH HM.out.bel.size)⟩
end Go.Proofs.YtgblbhocpafgcaaDoor
