/-
  What the reference's NewSymm does. No statement of the seat is proved here.
-/
import Derived.Test.YtmibjgkakolhiaaDoorPk40
import Derived.Test.YtmibjgkakolhiaaDoorRB2
import Derived.Test.YtmibjgkakolhiaaDoorPk27
import Derived.Test.YtmibjgkakolhiaaDoorPk21
namespace Go.Proofs.YtmibjgkakolhiaaDoor
open Go.RowKit

/-- So many bytes of a name, noughts behind them. -/
def nb10 (l : List Int) (k : Nat) : List Int := l.take k ++ List.replicate (32 - k) 0
set_option maxRecDepth 8000 in
theorem nb10_zero (l : List Int) : nb10 l 0 = z9l := rfl
set_option maxRecDepth 8000 in
theorem nb10_succ (l : List Int) (k : Nat) (hk : k < l.length) (h32 : k < 32) : (nb10 l k).set k l[k]! = nb10 l (k + 1) := by
  unfold nb10
  have e : (l.take k).length = k := by rw [List.length_take]; omega
  rw [List.set_append_right _ _ (by omega), e, Nat.sub_self, List.take_succ_eq_append_getElem hk, List.append_assoc, getElem!_pos l k hk]
  congr 1
  rw [show 32 - k = (32 - (k + 1)) + 1 by omega, List.replicate_succ, List.set_cons_zero]
  rfl
set_option maxRecDepth 8000 in
theorem nb10_all {l : List Int} (h : l.length ≤ 32) : nb10 l l.length = nm10 l := by
  unfold nb10 nm10
  rw [if_pos h, List.take_length]
set_option maxRecDepth 8000 in
theorem build_rsymm (w : World) : Sem.run Tryd.prog (Instr.build 33 #[]) w = .ok (.agg (rc10 z9l false 0 z9l z9l).toArray) w := by kernel_rfl
set_option maxRecDepth 8000 in
theorem wpList_build_nil {ops : Array Oper} {rest : List Oper} {o : Oper} {a : Act} {w : World} {Q : Exit → Act → World → Prop} (hgd : o.guard = none) {t : TypeId} (ho : o.op = Op.build t #[]) (v : Value)
    (hr : Sem.run Tryd.prog (Instr.build t #[]) w = .ok v w) (h : wpList Tryd.prog ops Q rest (a.put o.dst v) w) : wpList Tryd.prog ops Q (o :: rest) a w := by
  refine wpList_plain hgd fun K hK => ?_
  have e : (execOp a.eval o).run Tryd.prog w = .ok (.value v) w := by
    unfold execOp
    rw [ho]
    show Sem.run Tryd.prog (do let r ← Instr.build t (Array.map (fun x : Nat × Operand => match x with | (i, x) => (i, a.eval x)) #[]); pure (Next.value r)) w = _
    rw [Array.map_empty, Sem.run_bind, hr]
    rfl
  unfold Oper.wp
  rw [e]
  exact hK _ _ h
set_option maxRecDepth 8000 in
set_option maxHeartbeats 8000000 in
theorem rnew10_c (s : ByteArray) (w : World) (hg : Gq w) (hs : s.size ≤ 140737488355328) :
    Calls Tryd.prog 8 #[.string s] w fun e w' => ∃ b N, e = .returned (.pointer (some ⟨b, 0, none⟩)) ∧ w.heap.size ≤ b ∧ Hid (N = nm10 (sd s)) ∧ Hid (Ny w' b z9l false 0 N N) ∧ Below w.heap.size w w' := by
  have HG : Hid (Gq w) := hg
  have HL : Hid ((sd s).length = s.size) := sd_len s
  clear hg
  go_enter Tryd.func8, Tryd.ntmps8
  obtain ⟨ds, hds⟩ : ∃ ds, ds = (rc10 z9l false 0 z9l z9l) := ⟨_, rfl⟩
  have HDS : Hid (ds = (rc10 z9l false 0 z9l z9l)) := hds
  have hb9 := build_rsymm w
  rw [← hds] at hb9
  clear hds
  go_upto_region 2 with (refine wpList_build_nil rfl rfl (.agg ds.toArray) hb9 ?_)
  clear hb9
  have HS : Hid (Ny (w.alloc (.cells ds.toArray 33)) w.heap.size z9l false 0 z9l z9l) := by rw [HDS.out]; exact ny_new w 33
  have HB : Hid (Below w.heap.size w (w.alloc (.cells ds.toArray 33))) := bel1 _ _
  obtain ⟨W0, hW0⟩ : ∃ W, W = (w.alloc (.cells ds.toArray 33)) := ⟨_, rfl⟩
  obtain ⟨bs, hbs⟩ : ∃ q, q = w.heap.size := ⟨_, rfl⟩
  have HQ : Hid (w.heap.size ≤ bs) := by unfold Hid; rw [hbs]; exact Nat.le_refl _
  rw [← hW0] at HS HB ⊢
  rw [← hbs] at HS ⊢
  clear hW0 hbs
  go_upto_if 9 with fail
  go_cut [4] from 7 (fun _ wx => ∃ N, Hid (N = nm10 (sd s)) ∧ Hid (Ny wx bs z9l false 0 N z9l) ∧ Hid (Below w.heap.size w wx))
  case first =>
    by_cases hle : s.size ≤ 32
    · have q1 : (s.size : Int) ≤ 32 := by omega
      have q0 : decide ((s.size : Int) ≤ 32) = true := decide_eq_true q1
      go_wp2
      try simp only [q0]
      go_loopw [4] (fun iv wr => ∃ (k : Nat), iv = .int .i64 k ∧ k ≤ s.size ∧ Hid (Ny wr bs z9l false 0 (nb10 (sd s) k) z9l) ∧ Hid (Below w.heap.size w wr)) (fun iv _ => s.size - (intOf iv).toNat)
      case atStart => exact ⟨0, rfl, Nat.zero_le _, HS, HB⟩
      case round =>
        clear HS HB
        obtain ⟨k, rfl, hk, HS, HB⟩ := hrel
        by_cases hlt : k < s.size
        · have q2 : (k : Int) < s.size := by omega
          have q3 : (k : Int) < 32 := by omega
          obtain ⟨x, hx⟩ : ∃ x, x = (sd s)[k]! := ⟨_, rfl⟩
          have hx01 : 0 ≤ x ∧ x ≤ 255 := by
            have hkl : k < (sd s).length := by rw [HL.out]; exact hlt
            rw [hx, getElem!_pos (sd s) k hkl]
            exact sd_byt s _ (List.getElem_mem hkl)
          have hix : ∀ u, Sem.run Tryd.prog (Instr.index 9 (.string s) (.int .i64 (k : Int))) u = .ok (.int .u8 x) u := fun u => by rw [hx]; exact idx_str s k hlt u
          have HX : Hid (x = (sd s)[k]!) := hx
          clear hx
          go_upto_region 6 with fail
          refine wp_region_noPanic ?_
          refine wp_region_held_drew (S := ExtB bs wr) (by kernel_rfl) (ExtB.refl bs wr).drew (fun hH => ?_)
          change wpAnyH _ _ _ _ _ _ #[false, false, false, false, false, false, false, false, false] _ _
          refine wpAnyH_take (i := 0) (oi := ?o0n) (v := ?v0n) ?h0n (by kernel_rfl) ?f0n ?r0n (fun _ _ _ h => h) (Or.inl ⟨?w0n, ?y0n⟩) (by assumption) ?t0n
          case h0n => simp only [List.getElem?_toArray]; rfl
          case f0n => kernel_rfl
          case r0n => kernel_rfl
          case w0n => rfl
          case y0n => (intro u hu; (go_simp) <;> with_reducible rfl)
          try simp only [Act.put, List.setIfInBounds_toArray, List.set_cons_zero, List.set_cons_succ]
          refine wpAnyH_take (i := 1) (oi := ?o1n) (v := ?v1n) ?h1n (by kernel_rfl) ?f1n ?r1n (fun _ _ _ h => h) (Or.inl ⟨?w1n, ?y1n⟩) (by assumption) ?t1n
          case h1n => simp only [List.getElem?_toArray]; rfl
          case f1n => kernel_rfl
          case r1n => kernel_rfl
          case w1n => rfl
          case y1n => (intro u hu; (go_simp) <;> with_reducible rfl)
          try simp only [Act.put, List.setIfInBounds_toArray, List.set_cons_zero, List.set_cons_succ]
          refine wpAnyH_take (i := 2) (oi := ?o2n) (v := ?v2n) ?h2n (by kernel_rfl) ?f2n ?r2n (fun _ _ _ h => h) (Or.inl ⟨?w2n, ?y2n⟩) (by assumption) ?t2n
          case h2n => simp only [List.getElem?_toArray]; rfl
          case f2n => kernel_rfl
          case r2n => kernel_rfl
          case w2n => rfl
          case y2n => (intro u hu; (go_simp) <;> with_reducible rfl)
          try simp only [Act.put, List.setIfInBounds_toArray, List.set_cons_zero, List.set_cons_succ]
          refine wpAnyH_take (i := 3) (oi := ?o3n) (v := ?v3n) ?h3n (by kernel_rfl) ?f3n ?r3n (fun _ _ _ h => h) (Or.inl ⟨?w3n, ?y3n⟩) (by assumption) ?t3n
          case h3n => simp only [List.getElem?_toArray]; rfl
          case f3n => kernel_rfl
          case r3n => kernel_rfl
          case w3n => rfl
          case y3n => (intro u hu; (go_simp) <;> with_reducible rfl)
          try simp only [Act.put, List.setIfInBounds_toArray, List.set_cons_zero, List.set_cons_succ]
          refine wpAnyH_take (i := 4) (oi := ?o4n) (v := ?v4n) ?h4n (by kernel_rfl) ?f4n ?r4n (fun _ _ _ h => h) (Or.inl ⟨?w4n, ?y4n⟩) (by assumption) ?t4n
          case h4n => simp only [List.getElem?_toArray]; rfl
          case f4n => kernel_rfl
          case r4n => kernel_rfl
          case w4n => rfl
          case y4n => (intro u hu; (go_simp) <;> with_reducible rfl)
          try simp only [Act.put, List.setIfInBounds_toArray, List.set_cons_zero, List.set_cons_succ]
          refine wpAnyH_take (i := 5) (oi := ?o5n) (v := ?v5n) ?h5n (by kernel_rfl) ?f5n ?r5n (fun _ _ _ h => h) (Or.inl ⟨?w5n, ?y5n⟩) (by assumption) ?t5n
          case h5n => simp only [List.getElem?_toArray]; rfl
          case f5n => kernel_rfl
          case r5n => kernel_rfl
          case w5n => rfl
          case y5n => (intro u hu; (go_simp) <;> with_reducible rfl)
          try simp only [Act.put, List.setIfInBounds_toArray, List.set_cons_zero, List.set_cons_succ]
          refine wpAnyH_take (i := 6) (oi := ?o6n) (v := ?v6n) ?h6n (by kernel_rfl) ?f6n ?r6n (fun _ _ _ h => h) (Or.inl ⟨?w6n, ?y6n⟩) (by assumption) ?t6n
          case h6n => simp only [List.getElem?_toArray]; rfl
          case f6n => kernel_rfl
          case r6n => kernel_rfl
          case w6n => rfl
          case y6n => (intro u hu; (go_simp) <;> with_reducible rfl)
          try simp only [Act.put, List.setIfInBounds_toArray, List.set_cons_zero, List.set_cons_succ]
          refine wpAnyH_take (i := 7) (oi := ?o7n) (v := ?v7n) ?h7n (by kernel_rfl) ?f7n ?r7n (fun _ _ _ h => h) (Or.inl ⟨?w7n, ?y7n⟩) (by assumption) ?t7n
          case h7n => simp only [List.getElem?_toArray]; rfl
          case f7n => kernel_rfl
          case r7n => kernel_rfl
          case w7n => rfl
          case y7n => (intro u hu; (go_simp) <;> with_reducible rfl)
          try simp only [Act.put, List.setIfInBounds_toArray, List.set_cons_zero, List.set_cons_succ]
          clear hix
          obtain ⟨cy, fy⟩ := HS.out.ho.cell k (by omega)
          refine wpAnyH_ready (rs := [8]) (by kernel_rfl) (by simp) ?_
          refine AllReadyH.cons (o := ?o8n) ?h8n (fun K hK => ?_) AllReadyH.nil
          case h8n => simp only [List.getElem?_toArray]; rfl
          go_simp
          refine hK.out _ _ (ExtB.drew ((ExtB.refl bs wr).set (34 + k) _)) (fun hH' => ?_)
          clear hK K hH
          have hH := hH'
          clear hH'
          try simp only [List.setIfInBounds_toArray, List.set]
          refine wpAnyH_done (by kernel_rfl) ?_ _
          refine NoPanic.normal ?_
          replace HS : Hid (Ny (wr.setCell ⟨bs, 34 + k, none⟩ (.int .u8 x)).drew bs z9l false 0 (nb10 (sd s) (k + 1)) z9l) := by
            unfold Hid
            rw [← nb10_succ (sd s) k (by rw [HL.out]; exact hlt) (by omega), ← HX.out]
            exact (HS.out.setOne k (by omega) hx01).drew
          replace HB : Hid (Below w.heap.size w (wr.setCell ⟨bs, 34 + k, none⟩ (.int .u8 x)).drew) := (HB.out.setCell (p := ⟨bs, 34 + k, none⟩) HQ.out _).drew
          clear hH HX hx01 cy fy
          go_wp2
          go_roundw
          case rel => exact ⟨k + 1, by go_num, by omega, HS, HB⟩
          case measure => simp [intOf]; omega
        · have e : k = s.size := by omega
          have q2 : ¬ (k : Int) < s.size := by omega
          go_wp2_with fail
          go_meet
          case rel => exact ⟨_, by unfold Hid; rw [e, ← HL.out]; exact nb10_all (by rw [HL.out]; exact hle), HS, HB⟩
    · have q1 : ¬ (s.size : Int) ≤ 32 := by omega
      obtain ⟨c, V, hcv, HR, hb⟩ := conv_str s W0
      go_wp2_with fail
      refine (rsum_c (some ⟨W0.heap.size, 0, none⟩) s.size c (sd s) _ HR hs (HG.out.later (HB.out.trans (hb.mono HB.out.size)))).mono ?_
      rintro e V1 ⟨S, rfl, HS1, hb2⟩
      have hSn : Bn 32 S := by rw [HS1.out]; exact sum7_bn _
      have hb3 : Below W0.heap.size W0 V1 := hb.trans (hb2.mono hb.size)
      replace HS : Hid (Ny V1 bs z9l false 0 z9l z9l) := HS.out.later hb3
      replace HB : Hid (Below w.heap.size w V1) := HB.out.trans (hb3.mono HB.out.size)
      clear hb hb2 hb3 HR hcv HG
      have hth := HS.out.ho.all
      obtain ⟨hlen', hone, hi⟩ := bn32_cells hSn
      obtain ⟨cs, hcs⟩ : ∃ cs, cs = (List.map (Value.int .u8) S) := ⟨_, rfl⟩
      have HCS : Hid (cs = (List.map (Value.int .u8) S)) := hcs
      rw [← hcs] at hlen' hone hi ⊢
      clear hcs
      have HS2 : Hid (Ny (V1.setCells bs 34 cs) bs z9l false 0 S z9l) := by unfold Hid; rw [HCS.out]; exact HS.out.setH hSn
      have HB2 : Hid (Below w.heap.size w (V1.setCells bs 34 cs)) := below_setCells _ HQ.out _ _ _ HB.out
      clear HS HB
      go_wp2_with (refine wpList_store_mid rfl 27 (.tmp 29) (.tmp 27) rfl bs 34 cs.toArray rfl rfl (by simpa [hlen'] using hth) (by simpa using hi) (all_oneCell_toArray hone) ?_)
      go_meet
      case rel => exact ⟨S, by unfold Hid nm10; rw [if_neg (by rw [HL.out]; exact hle)]; exact HS1.out, HS2, HB2⟩
  case rest =>
  obtain ⟨N, HN, HS2, HB2⟩ := hcut
  clear HS HB HG
  have HS := HS2
  have HB := HB2
  clear HS2 HB2
  have hNn : Bn 32 N := HS.out.bh
  have hR := HS.out.ho.rng
  have hth := HS.out.co.all
  obtain ⟨hlen', hone, hi⟩ := bn32_cells hNn
  obtain ⟨cs, hcs⟩ : ∃ cs, cs = (List.map (Value.int .u8) N) := ⟨_, rfl⟩
  have HCS : Hid (cs = (List.map (Value.int .u8) N)) := hcs
  rw [← hcs] at hlen' hone hi hR
  clear hcs
  go_wp2_with (first
    | (refine wpList_load_mid rfl 27 (.tmp 33) rfl bs 34 rfl cs _ hR Tryd.underlying27 rfl hi ?_)
    | (refine wpList_store_mid rfl 27 (.tmp 36) (.tmp 34) rfl bs 66 cs.toArray rfl rfl (by simpa [hlen'] using hth) (by simpa using hi) (all_oneCell_toArray hone) ?_))
  go_ret
  exact ⟨bs, N, rfl, HQ.out, HN, by unfold Hid; rw [HCS.out]; exact HS.out.setC hNn, below_setCells _ HQ.out _ _ _ HB.out⟩
end Go.Proofs.YtmibjgkakolhiaaDoor
