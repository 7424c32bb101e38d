/-
  What cipher's New and a State's Init, Has, Nonce, SetNonce, Key, Copy do. No statement of the seat is proved here.
-/
import Derived.Test.YtmibjgkakolhiaaDoorPk19
import Derived.Test.YtmibjgkakolhiaaDoorPk27
namespace Go.Proofs.YtmibjgkakolhiaaDoor
open Go.RowKit

set_option maxRecDepth 8000 in
theorem cons_of {l : List Int} {n : Nat} (h : l.length = n + 1) : ∃ a r, l = a :: r ∧ r.length = n := by
  cases l with
  | nil => simp at h
  | cons a r => exact ⟨a, r, rfl, by simpa using h⟩
set_option maxRecDepth 8000 in
/-- A State that is written out: its key and has. -/
theorem build_init {l0 : List Int} (h0 : l0.length = 32) (w : World) : Sem.run Tryd.prog (Instr.build 55 #[(0, .agg (List.map (Value.int .u8) l0).toArray), (1, .bool true)]) w = .ok (.agg (sc9 l0 true 0).toArray) w := by
  obtain ⟨a0, l1, rfl, h1⟩ := cons_of h0
  obtain ⟨a1, l2, rfl, h2⟩ := cons_of h1
  obtain ⟨a2, l3, rfl, h3⟩ := cons_of h2
  obtain ⟨a3, l4, rfl, h4⟩ := cons_of h3
  obtain ⟨a4, l5, rfl, h5⟩ := cons_of h4
  obtain ⟨a5, l6, rfl, h6⟩ := cons_of h5
  obtain ⟨a6, l7, rfl, h7⟩ := cons_of h6
  obtain ⟨a7, l8, rfl, h8⟩ := cons_of h7
  obtain ⟨a8, l9, rfl, h9⟩ := cons_of h8
  obtain ⟨a9, l10, rfl, h10⟩ := cons_of h9
  obtain ⟨a10, l11, rfl, h11⟩ := cons_of h10
  obtain ⟨a11, l12, rfl, h12⟩ := cons_of h11
  obtain ⟨a12, l13, rfl, h13⟩ := cons_of h12
  obtain ⟨a13, l14, rfl, h14⟩ := cons_of h13
  obtain ⟨a14, l15, rfl, h15⟩ := cons_of h14
  obtain ⟨a15, l16, rfl, h16⟩ := cons_of h15
  obtain ⟨a16, l17, rfl, h17⟩ := cons_of h16
  obtain ⟨a17, l18, rfl, h18⟩ := cons_of h17
  obtain ⟨a18, l19, rfl, h19⟩ := cons_of h18
  obtain ⟨a19, l20, rfl, h20⟩ := cons_of h19
  obtain ⟨a20, l21, rfl, h21⟩ := cons_of h20
  obtain ⟨a21, l22, rfl, h22⟩ := cons_of h21
  obtain ⟨a22, l23, rfl, h23⟩ := cons_of h22
  obtain ⟨a23, l24, rfl, h24⟩ := cons_of h23
  obtain ⟨a24, l25, rfl, h25⟩ := cons_of h24
  obtain ⟨a25, l26, rfl, h26⟩ := cons_of h25
  obtain ⟨a26, l27, rfl, h27⟩ := cons_of h26
  obtain ⟨a27, l28, rfl, h28⟩ := cons_of h27
  obtain ⟨a28, l29, rfl, h29⟩ := cons_of h28
  obtain ⟨a29, l30, rfl, h30⟩ := cons_of h29
  obtain ⟨a30, l31, rfl, h31⟩ := cons_of h30
  obtain ⟨a31, l32, rfl, h32⟩ := cons_of h31
  obtain rfl := List.eq_nil_of_length_eq_zero h32
  kernel_rfl
set_option maxRecDepth 8000 in
theorem build_none (w : World) : Sem.run Tryd.prog (Instr.build 55 #[]) w = .ok (.agg (sc9 z9l false 0).toArray) w := by kernel_rfl
set_option maxRecDepth 8000 in
theorem new9_c (w : World) :
    Calls Tryd.prog 43 #[] w fun e w' => e = .returned (.pointer (some ⟨w.heap.size, 0, none⟩)) ∧ Hid (Sx w' w.heap.size z9l false 0) ∧ Below w.heap.size w w' := by
  go_enter Tryd.func43, Tryd.ntmps43
  go_wp2
  go_ret
  exact ⟨rfl, sx_new w z9l false 0 z9l_bn (by decide) _, bel1 _ _⟩
set_option maxRecDepth 8000 in
theorem has9_c (b : Nat) (k : List Int) (h : Bool) (n : Int) (w : World) (hs : Sx w b k h n) :
    Calls Tryd.prog 18 #[.pointer (some ⟨b, 0, none⟩)] w fun e w' => e = .returned (.bool h) ∧ w' = w := by
  obtain ⟨ch, -⟩ := hs.has
  go_enter Tryd.func18, Tryd.ntmps18
  go_wp2
  go_ret
  exact ⟨rfl, rfl⟩
set_option maxRecDepth 8000 in
theorem nonce9_c (b : Nat) (k : List Int) (h : Bool) (n : Int) (w : World) (hs : Sx w b k h n) :
    Calls Tryd.prog 25 #[.pointer (some ⟨b, 0, none⟩)] w fun e w' => e = .returned (.int .u64 n) ∧ w' = w := by
  obtain ⟨cn, -⟩ := hs.nonce
  go_enter Tryd.func25, Tryd.ntmps25
  go_wp2
  go_ret
  exact ⟨rfl, rfl⟩
set_option maxRecDepth 8000 in
theorem key9_c (b : Nat) (k : List Int) (h : Bool) (n : Int) (w : World) (hs : Sx w b k h n) :
    Calls Tryd.prog 19 #[.pointer (some ⟨b, 0, none⟩)] w fun e w' => e = .returned (.agg (List.map (Value.int .u8) k).toArray) ∧ Below w.heap.size w w' := by
  have HS : Hid (Sx w b k h n) := hs
  clear hs
  go_enter Tryd.func19, Tryd.ntmps19
  go_upto_region 1 with fail
  have HD : Hid ((w.alloc (.cells #[.int .u8 0, .int .u8 0, .int .u8 0, .int .u8 0, .int .u8 0, .int .u8 0, .int .u8 0, .int .u8 0, .int .u8 0, .int .u8 0, .int .u8 0, .int .u8 0, .int .u8 0, .int .u8 0, .int .u8 0, .int .u8 0, .int .u8 0, .int .u8 0, .int .u8 0, .int .u8 0, .int .u8 0, .int .u8 0, .int .u8 0, .int .u8 0, .int .u8 0, .int .u8 0, .int .u8 0, .int .u8 0, .int .u8 0, .int .u8 0, .int .u8 0, .int .u8 0] 27)).there w.heap.size 0 32) := by unfold Hid; exact there_new _ 32 _ rfl _
  have HB : Hid (Below w.heap.size w (w.alloc (.cells #[.int .u8 0, .int .u8 0, .int .u8 0, .int .u8 0, .int .u8 0, .int .u8 0, .int .u8 0, .int .u8 0, .int .u8 0, .int .u8 0, .int .u8 0, .int .u8 0, .int .u8 0, .int .u8 0, .int .u8 0, .int .u8 0, .int .u8 0, .int .u8 0, .int .u8 0, .int .u8 0, .int .u8 0, .int .u8 0, .int .u8 0, .int .u8 0, .int .u8 0, .int .u8 0, .int .u8 0, .int .u8 0, .int .u8 0, .int .u8 0, .int .u8 0, .int .u8 0] 27))) := bel1 _ _
  obtain ⟨W0, hW0⟩ : ∃ W, W = (w.alloc (.cells #[.int .u8 0, .int .u8 0, .int .u8 0, .int .u8 0, .int .u8 0, .int .u8 0, .int .u8 0, .int .u8 0, .int .u8 0, .int .u8 0, .int .u8 0, .int .u8 0, .int .u8 0, .int .u8 0, .int .u8 0, .int .u8 0, .int .u8 0, .int .u8 0, .int .u8 0, .int .u8 0, .int .u8 0, .int .u8 0, .int .u8 0, .int .u8 0, .int .u8 0, .int .u8 0, .int .u8 0, .int .u8 0, .int .u8 0, .int .u8 0, .int .u8 0, .int .u8 0] 27)) := ⟨_, rfl⟩
  obtain ⟨q2, hq2⟩ : ∃ q, q = w.heap.size := ⟨_, rfl⟩
  rw [← hW0] at HD HB ⊢
  have HQ : Hid (q2 = w.heap.size) := hq2
  rw [← hq2] at HD ⊢
  clear hW0 hq2
  replace HS : Hid (Sx W0 b k h n) := HS.out.later HB.out
  obtain ⟨hlen', hone, hi⟩ := bn32_cells HS.out.bk
  have hR := HS.out.key
  obtain ⟨cs, hcs⟩ : ∃ cs, cs = (List.map (Value.int .u8) k) := ⟨_, rfl⟩
  have HC : Hid (cs = (List.map (Value.int .u8) k)) := hcs
  rw [← hcs] at hlen' hone hi hR
  clear hcs
  have hth := HD.out
  go_wp2_with (first
    | (refine wpList_load_mid rfl 27 (.tmp 5) rfl b 0 rfl cs _ hR Tryd.underlying27 rfl hi ?_)
    | (refine wpList_store_mid rfl 27 (.tmp 2) (.tmp 6) rfl q2 0 cs.toArray rfl rfl (by simpa [hlen'] using hth) (by simpa using hi) (all_oneCell_toArray hone) ?_))
  have HR2 : Hid ((W0.setCells q2 0 cs).rangeAt q2 0 cs) := World.rangeAt_setCells_same _ _ _ _ (by rw [hlen']; exact hth)
  have hld := run_loadVar_mid (P := Tryd.prog) _ _ 0 27 _ _ HR2.out Tryd.underlying27 rfl hi
  exact bodyPost_ret (v := .agg cs.toArray) (by simp [results, Tryd.results19]; exact hld) rfl ⟨by rw [HC.out], below_setCells _ (by have := HQ.out; omega) _ _ _ HB.out⟩

set_option maxRecDepth 8000 in
theorem wpList_build9 {ops : Array Oper} {rest : List Oper} {o : Oper} {a : Act} {w : World} {Q : Exit → Act → World → Prop} (hgd : o.guard = none) (ho : o.op = Op.build 55 #[(0, .tmp 5), (1, .const (.bool true))]) (x v : Value) (hx : a.eval (.tmp 5) = x)
    (hr : Sem.run Tryd.prog (Instr.build 55 #[(0, x), (1, .bool true)]) w = .ok v w) (h : wpList Tryd.prog ops Q rest (a.put o.dst v) w) : wpList Tryd.prog ops Q (o :: rest) a w := by
  refine wpList_plain hgd fun K hK => ?_
  have e : (execOp a.eval o).run Tryd.prog w = .ok (.value v) w := by
    unfold execOp
    rw [ho]
    have e1 : Array.map (fun x : Nat × Operand => match x with | (i, x) => (i, a.eval x)) #[(0, Operand.tmp 5), (1, Operand.const (Value.bool true))] = #[(0, x), (1, .bool true)] := by
      rw [← hx]
      simp [Act.eval]
    show Sem.run Tryd.prog (do let r ← Instr.build 55 (Array.map (fun x : Nat × Operand => match x with | (i, x) => (i, a.eval x)) #[(0, Operand.tmp 5), (1, Operand.const (Value.bool true))]); pure (Next.value r)) w = _
    rw [e1, Sem.run_bind, hr]
    rfl
  unfold Oper.wp
  rw [e]
  exact hK _ _ h
set_option maxRecDepth 8000 in
set_option maxHeartbeats 2000000 in
theorem init9_c (b : Nat) (k : List Int) (h : Bool) (n : Int) (key : List Int) (hk : Bn 32 key) (w : World) (hs : Sx w b k h n) :
    Calls Tryd.prog 29 #[.pointer (some ⟨b, 0, none⟩), (.agg (List.map (Value.int .u8) key).toArray)] w fun e w' => e = .returned (.tuple #[]) ∧ Hid (Sx w' b key true 0) ∧ ExtB b w w' := by
  have HS : Hid (Sx w b k h n) := hs
  have HK : Hid (Bn 32 key) := hk
  clear hs hk
  go_enter Tryd.func29, Tryd.ntmps29
  go_upto_region 1 with fail
  have AK : Hid (Ar (w.alloc (.cells (List.map (Value.int .u8) key).toArray 27)) w.heap.size 32 (List.map (Value.int .u8) key)) := ar_box w _ 32 HK.out.map_len _
  have HB : Hid (Below w.heap.size w (w.alloc (.cells (List.map (Value.int .u8) key).toArray 27))) := bel1 _ _
  have HE : Hid (ExtB b w (w.alloc (.cells (List.map (Value.int .u8) key).toArray 27))) := (ExtB.refl b w).alloc _
  obtain ⟨W0, hW0⟩ : ∃ W, W = (w.alloc (.cells (List.map (Value.int .u8) key).toArray 27)) := ⟨_, rfl⟩
  obtain ⟨q3, hq3⟩ : ∃ q, q = w.heap.size := ⟨_, rfl⟩
  rw [← hW0] at AK HB HE ⊢
  rw [← hq3] at AK ⊢
  clear hW0 hq3
  replace HS : Hid (Sx W0 b k h n) := HS.out.later HB.out
  obtain ⟨_, _, hi⟩ := bn32_cells HK.out
  obtain ⟨hlen', hone, hic⟩ := sc9_cells true 0 HK.out
  have hb9 := build_init HK.out.len W0
  have hth := HS.out.ar.all
  obtain ⟨cs, hcs⟩ : ∃ cs, cs = (sc9 key true 0) := ⟨_, rfl⟩
  have HC : Hid (cs = (sc9 key true 0)) := hcs
  rw [← hcs] at hlen' hone hic hb9
  clear hcs
  go_wp2_with (first
    | (refine wpList_load_mid rfl 27 (.tmp 3) rfl q3 0 rfl (List.map (Value.int .u8) key) _ AK.out.rng Tryd.underlying27 rfl hi ?_)
    | (refine wpList_build9 rfl rfl (.agg (List.map (Value.int .u8) key).toArray) (.agg cs.toArray) rfl hb9 ?_)
    | (refine wpList_store_mid rfl 55 (.tmp 7) (.tmp 6) rfl b 0 cs.toArray rfl rfl (by simpa [hlen'] using hth) (by simpa using hic) (all_oneCell_toArray hone) ?_))
  go_end0
  exact ⟨rfl, by rw [HC.out]; exact HS.out.setAll HK.out true (by decide), HE.out.comp (extB_setCells _ _ _ (ExtB.refl b _))⟩
end Go.Proofs.YtmibjgkakolhiaaDoor
