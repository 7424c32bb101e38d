/-
  What the law's hex and the reference's Public do; a value of X. No statement of the seat is proved here.
-/
import Derived.Test.YtggjifpcoidipaaDoorLCX
namespace Go.Proofs.YtggjifpcoidipaaDoor
open Go.RowKit

/-! ### The value -/
def akey : List Int := [165, 70, 227, 107, 240, 82, 124, 157, 59, 22, 21, 75, 130, 70, 94, 221, 98, 20, 76, 10, 193, 252, 90, 24, 80, 106, 34, 68, 186, 68, 154, 196]
def ukey : List Int := [230, 219, 104, 103, 88, 48, 48, 219, 53, 148, 193, 164, 36, 177, 95, 124, 114, 102, 36, 236, 38, 179, 53, 59, 16, 169, 3, 166, 208, 171, 28, 76]
def ckey : List Int := [195, 218, 85, 55, 157, 233, 198, 144, 142, 148, 234, 77, 242, 141, 8, 79, 50, 236, 207, 3, 73, 28, 113, 247, 84, 180, 7, 85, 119, 162, 133, 82]
theorem inv_of (x y : Int) (hx : El x) (hy : El y) (h1 : x * y % 57896044618658097711785492504343953926634992332820282019728792003956564819949 = 1) : pw y 57896044618658097711785492504343953926634992332820282019728792003956564819947 = x := by
  have hy0 : y ≠ 0 := fun e => by rw [e, Int.mul_zero] at h1; exact absurd h1 (by decide)
  have h2 := inv_mul y hy hy0
  generalize hz : pw y 57896044618658097711785492504343953926634992332820282019728792003956564819947 = z at *
  have ez : El z := by rw [← hz]; exact pw_el _ _
  have a1 : x * y * z % 57896044618658097711785492504343953926634992332820282019728792003956564819949 = z := by rw [← em_mul_l, h1, Int.one_mul, ez.em]
  have a2 : x * y * z % 57896044618658097711785492504343953926634992332820282019728792003956564819949 = x := by rw [Int.mul_assoc, ← em_mul_r, h2, Int.mul_one, hx.em]
  rw [← a1, a2]
theorem key_num : leN (cl akey) = 31029842492115040904895560451863089656472772604678260265531221036453811406496 := by decide +kernel
theorem u_num : num ukey = 34426434033919594451155107781188821651316167215306631574996226621102155684838 := by decide +kernel
theorem lad_val : (lad 31029842492115040904895560451863089656472772604678260265531221036453811406496 34426434033919594451155107781188821651316167215306631574996226621102155684838 255).1 = 40720446656044610887007743526168351200949085573335588056034522313589005102685 ∧ (lad 31029842492115040904895560451863089656472772604678260265531221036453811406496 34426434033919594451155107781188821651316167215306631574996226621102155684838 255).2.1 = 1913421194926468280838932077950181047858614286606652195677699455974229136423 := by decide +kernel
theorem inv_val : pw 1913421194926468280838932077950181047858614286606652195677699455974229136423 57896044618658097711785492504343953926634992332820282019728792003956564819947 = 16182784553971376521665912991294993885613170096681619599039146940866607196333 := inv_of _ _ ⟨by decide, by decide⟩ ⟨by decide, by decide⟩ (by decide +kernel)
theorem xn_val : xn (leN (cl akey)) (num ukey) = 37325765543539916631701301279660700968428932651319597985674090122993663859395 := by
  rw [key_num, u_num]
  unfold xn
  rw [lad_val.1, lad_val.2, inv_val]
  unfold fm
  decide +kernel
theorem c_lay : lay 32 37325765543539916631701301279660700968428932651319597985674090122993663859395 = ckey := by decide +kernel

/-! ### hex -/
def sd (s : ByteArray) : List Int := s.data.toList.map (fun u => (u.toNat : Int))
theorem idx_str (s : ByteArray) (j : Nat) (h : j < s.size) (w : World) : Sem.run Tryd.prog (Instr.index 9 (.string s) (.int .i64 (j : Int))) w = .ok (.int .u8 (sd s)[j]!) w := by
  rw [run_index_string (P := Tryd.prog) _ _ s _ _ Tryd.underlying9, dif_pos ⟨by omega, by omega⟩]
  have e : (sd s)[j]? = some ((s.data[j]'h).toNat : Int) := by
    unfold sd
    rw [List.getElem?_map, Array.getElem?_toList, Array.getElem?_eq_getElem h]
    rfl
  have e2 : (sd s)[j]! = ((s.data[j]'h).toNat : Int) := by rw [List.getElem!_eq_getElem?_getD, e]; rfl
  rw [e2]
  rfl
/-- A digit. -/
def dv (c : Int) : Int := if 97 ≤ c then c - 87 else c - 48
def okd (c : Int) : Bool := (decide (48 ≤ c) && decide (c ≤ 57)) || (decide (97 ≤ c) && decide (c ≤ 102))
def hxl (d : List Int) : Nat → List Int
  | 0 => []
  | i + 1 => hxl d i ++ [16 * dv d[2 * i]! + dv d[2 * i + 1]!]
theorem hxl_len (d : List Int) : ∀ i, (hxl d i).length = i
  | 0 => rfl
  | i + 1 => by rw [hxl, List.length_append, hxl_len d i]; rfl
theorem okd_dv {c : Int} (h : okd c = true) : 0 ≤ dv c ∧ dv c ≤ 15 ∧ 48 ≤ c ∧ c ≤ 102 ∧ (97 ≤ c → dv c = c - 87) ∧ (¬ 97 ≤ c → dv c = c - 48) := by
  unfold okd at h
  simp only [Bool.or_eq_true, Bool.and_eq_true, decide_eq_true_eq] at h
  unfold dv
  split <;> omega
theorem okd_at {d : List Int} (h : d.all okd = true) {j : Nat} (hj : j < d.length) : okd d[j]! = true := by
  rw [getElem!_pos d j hj]
  exact List.all_eq_true.1 h _ (List.getElem_mem hj)
theorem hxl_byt {d : List Int} (h : d.all okd = true) : ∀ i, 2 * i ≤ d.length → Byt (hxl d i)
  | 0, _ => Byt.nil
  | i + 1, hi => by
    have h0 := okd_dv (okd_at h (j := 2 * i) (by omega))
    have h1 := okd_dv (okd_at h (j := 2 * i + 1) (by omega))
    rw [hxl]
    exact (hxl_byt h i (by omega)).app (Byt.cons (by omega) (by omega) Byt.nil)
def pad (l : List Int) : List Int := l ++ List.replicate (32 - l.length) 0
theorem pad_set (l : List Int) (h : l.length < 32) (x : Int) : (pad l).set l.length x = pad (l ++ [x]) := by
  unfold pad
  rw [List.set_append_right _ _ (Nat.le_refl _), Nat.sub_self, show 32 - l.length = (31 - l.length) + 1 by omega, List.replicate_succ, List.set_cons_zero, List.length_append, List.length_singleton, show 32 - (l.length + 1) = 31 - l.length by omega]
  simp
theorem pad_at (l : List Int) (h : l.length < 32) : (pad l)[l.length]? = some 0 := by
  unfold pad
  rw [List.getElem?_append_right (Nat.le_refl _), Nat.sub_self, List.getElem?_replicate, if_pos (by omega)]
theorem pad_len (l : List Int) (h : l.length ≤ 32) : (pad l).length = 32 := by
  unfold pad
  rw [List.length_append, List.length_replicate]
  omega

theorem pad_arr : (List.map (Value.int .u8) (pad [])).toArray = #[.int .u8 0, .int .u8 0, .int .u8 0, .int .u8 0, .int .u8 0, .int .u8 0, .int .u8 0, .int .u8 0, .int .u8 0, .int .u8 0, .int .u8 0, .int .u8 0, .int .u8 0, .int .u8 0, .int .u8 0, .int .u8 0, .int .u8 0, .int .u8 0, .int .u8 0, .int .u8 0, .int .u8 0, .int .u8 0, .int .u8 0, .int .u8 0, .int .u8 0, .int .u8 0, .int .u8 0, .int .u8 0, .int .u8 0, .int .u8 0, .int .u8 0, .int .u8 0] := rfl
theorem byt_pad0 : Byt (pad []) := fun x hx => by
  unfold pad at hx
  rw [List.nil_append] at hx
  rw [(List.mem_replicate.1 hx).2]
  decide
set_option maxRecDepth 8000 in
set_option maxHeartbeats 4000000 in
theorem hex_c (s : ByteArray) (hsz : s.size = 64) (hok : (sd s).all okd = true) (w : World) :
    Calls Tryd.prog 17 #[.string s] w fun e w' => ∃ l, e = .returned (.agg (List.map (Value.int .u8) l).toArray) ∧ Hid (l = hxl (sd s) 32) ∧ Hid (By l) ∧ Below w.heap.size w w' := by
  have HOK : Hid ((sd s).all okd = true) := hok
  have HSL : Hid ((sd s).length = 64) := by unfold Hid sd; rw [List.length_map, Array.length_toList]; exact hsz
  have HIX : Hid (∀ j : Nat, j < 64 → ∀ u, Sem.run Tryd.prog (Instr.index 9 (.string s) (.int .i64 (j : Int))) u = .ok (.int .u8 (sd s)[j]!) u) := fun j hj u => idx_str s j (by omega) u
  clear hok hsz
  go_enter Tryd.func17, Tryd.ntmps17
  go_wp2
  obtain ⟨W0, hW0⟩ : ∃ W, W = (w.alloc (.cells #[.int .u8 0, .int .u8 0, .int .u8 0, .int .u8 0, .int .u8 0, .int .u8 0, .int .u8 0, .int .u8 0, .int .u8 0, .int .u8 0, .int .u8 0, .int .u8 0, .int .u8 0, .int .u8 0, .int .u8 0, .int .u8 0, .int .u8 0, .int .u8 0, .int .u8 0, .int .u8 0, .int .u8 0, .int .u8 0, .int .u8 0, .int .u8 0, .int .u8 0, .int .u8 0, .int .u8 0, .int .u8 0, .int .u8 0, .int .u8 0, .int .u8 0, .int .u8 0] 22)).alloc (.cells #[.int .u8 0, .int .u8 0, .int .u8 0, .int .u8 0, .int .u8 0, .int .u8 0, .int .u8 0, .int .u8 0, .int .u8 0, .int .u8 0, .int .u8 0, .int .u8 0, .int .u8 0, .int .u8 0, .int .u8 0, .int .u8 0, .int .u8 0, .int .u8 0, .int .u8 0, .int .u8 0, .int .u8 0, .int .u8 0, .int .u8 0, .int .u8 0, .int .u8 0, .int .u8 0, .int .u8 0, .int .u8 0, .int .u8 0, .int .u8 0, .int .u8 0, .int .u8 0] 22) := ⟨_, rfl⟩
  obtain ⟨b3, hb3⟩ : ∃ b, b = w.heap.size + 1 := ⟨_, rfl⟩
  rw [← hW0, ← hb3]
  have HD : Hid (W0.there w.heap.size 0 32) := by unfold Hid; rw [hW0]; exact there_later (bel1 _ _) (there_new w 32 #[.int .u8 0, .int .u8 0, .int .u8 0, .int .u8 0, .int .u8 0, .int .u8 0, .int .u8 0, .int .u8 0, .int .u8 0, .int .u8 0, .int .u8 0, .int .u8 0, .int .u8 0, .int .u8 0, .int .u8 0, .int .u8 0, .int .u8 0, .int .u8 0, .int .u8 0, .int .u8 0, .int .u8 0, .int .u8 0, .int .u8 0, .int .u8 0, .int .u8 0, .int .u8 0, .int .u8 0, .int .u8 0, .int .u8 0, .int .u8 0, .int .u8 0, .int .u8 0] rfl 22)
  have HB : Hid (Below w.heap.size w W0) := by unfold Hid; rw [hW0]; exact bel2 _ _ _
  have HA : Hid (Arr W0 b3 (List.map (Value.int .u8) (pad (hxl (sd s) 0)))) := by
    unfold Hid
    rw [hW0, hb3]
    have := arr_box (w.alloc (.cells #[.int .u8 0, .int .u8 0, .int .u8 0, .int .u8 0, .int .u8 0, .int .u8 0, .int .u8 0, .int .u8 0, .int .u8 0, .int .u8 0, .int .u8 0, .int .u8 0, .int .u8 0, .int .u8 0, .int .u8 0, .int .u8 0, .int .u8 0, .int .u8 0, .int .u8 0, .int .u8 0, .int .u8 0, .int .u8 0, .int .u8 0, .int .u8 0, .int .u8 0, .int .u8 0, .int .u8 0, .int .u8 0, .int .u8 0, .int .u8 0, .int .u8 0, .int .u8 0] 22)) (pad []) ⟨rfl, byt_pad0⟩
    rw [pad_arr] at this
    simpa [hxl] using this
  have k1 : w.heap.size < b3 := by omega
  clear hW0 hb3
  go_loopw [4] (fun i wr => ∃ k : Nat, k ≤ 32 ∧ i = .int .i64 k ∧ Hid (wr.there w.heap.size 0 32) ∧ Hid (Arr wr b3 (List.map (Value.int .u8) (pad (hxl (sd s) k)))) ∧ Hid (Below w.heap.size w wr)) (fun i _ => 32 - (intOf i).toNat)
  case atStart => exact ⟨0, by decide, rfl, HD, HA, HB⟩
  case round =>
    clear HD HA HB
    obtain ⟨k, hk, rfl, HD, HA, HB⟩ := hrel
    by_cases hlt : k < 32
    · have g1 : (k : Int) < 32 := by omega
      have hl := hxl_len (sd s) k
      have e0 : ∀ u, Sem.run Tryd.prog (Instr.index 9 (.string s) (.int .i64 (2 * (k : Int)))) u = .ok (.int .u8 (sd s)[2 * k]!) u := fun u => by
        have := HIX.out (2 * k) (by omega) u
        rwa [show ((2 * k : Nat) : Int) = 2 * (k : Int) by omega] at this
      have e1 : ∀ u, Sem.run Tryd.prog (Instr.index 9 (.string s) (.int .i64 (2 * (k : Int) + 1))) u = .ok (.int .u8 (sd s)[2 * k + 1]!) u := fun u => by
        have := HIX.out (2 * k + 1) (by omega) u
        rwa [show ((2 * k + 1 : Nat) : Int) = 2 * (k : Int) + 1 by omega] at this
      have o0 := okd_dv (okd_at HOK.out (j := 2 * k) (by rw [HSL.out]; omega))
      have o1 := okd_dv (okd_at HOK.out (j := 2 * k + 1) (by rw [HSL.out]; omega))
      obtain ⟨c0, hc0⟩ : ∃ c, c = (sd s)[2 * k]! := ⟨_, rfl⟩
      obtain ⟨c1, hc1⟩ : ∃ c, c = (sd s)[2 * k + 1]! := ⟨_, rfl⟩
      rw [← hc0] at e0 o0
      rw [← hc1] at e1 o1
      have HNX : Hid (hxl (sd s) (k + 1) = hxl (sd s) k ++ [16 * dv c0 + dv c1]) := by unfold Hid; rw [hxl, ← hc0, ← hc1]
      obtain ⟨cz, fz⟩ := arr_cell HA.out k (by rw [pad_len _ (by omega)]; exact hlt) hlt
      have hz : (pad (hxl (sd s) k))[k]'(by rw [pad_len _ (by omega)]; exact hlt) = 0 := by
        have := pad_at (hxl (sd s) k) (by omega)
        rw [hl, List.getElem?_eq_getElem (by rw [pad_len _ (by omega)]; exact hlt)] at this
        exact Option.some.inj this
      rw [hz] at cz
      clear hz hc0 hc1
      have HL : Hid ((hxl (sd s) k).length = k) := hl
      clear hl
      obtain ⟨o00, o01, o02, o03, o04, o05⟩ := o0
      obtain ⟨o10, o11, o12, o13, o14, o15⟩ := o1
      generalize hdv0 : dv c0 = v0 at o00 o01 o04 o05 HNX
      generalize hdv1 : dv c1 = v1 at o10 o11 o14 o15 HNX
      clear hdv0 hdv1
      have HS0 : Hid (Arr (wr.setCell ⟨b3, k, none⟩ (.int .u8 v0)) b3 (List.map (Value.int .u8) ((pad (hxl (sd s) k)).set k v0))) := arr_set HA.out k (by rw [pad_len _ (by rw [HL.out]; omega)]; exact hlt) v0
      have HS1 : Hid (Arr ((wr.setCell ⟨b3, k, none⟩ (.int .u8 v0)).setCell ⟨b3, k, none⟩ (.int .u8 (16 * v0 + v1))) b3 (List.map (Value.int .u8) (pad (hxl (sd s) (k + 1))))) := by
        have := arr_set HS0.out k (by rw [List.length_set, pad_len _ (by rw [HL.out]; omega)]; exact hlt) (16 * v0 + v1)
        rw [List.set_set] at this
        have e := pad_set (hxl (sd s) k) (by rw [HL.out]; exact hlt) (16 * v0 + v1)
        rw [HL.out] at e
        rw [e, ← HNX.out] at this
        exact this
      obtain ⟨cz1, fz1⟩ := arr_cell HS0.out k (by rw [List.length_set, pad_len _ (by rw [HL.out]; omega)]; exact hlt) hlt
      rw [List.getElem_set_self] at cz1
      by_cases a0 : 97 ≤ c0
      · by_cases a1 : 97 ≤ c1
        · have q0 : c0 - 97 + 10 = v0 := by have := o04 a0; omega
          have q1 : c1 - 97 + 10 = v1 := by have := o14 a1; omega
          clear o04 o05 o14 o15
          go_wp2
          refine wp_loop_rounds 3 ?_
          rw [rounds_succ]; go_wp2
          rw [rounds_succ]; go_wp2
          rw [rounds_succ]; go_wp2
          go_roundw
          case rel => exact ⟨k + 1, by omega, by go_num, there_set (there_set HD.out _ _ _) _ _ _, HS1, (HB.out.setCell (p := ⟨b3, k, none⟩) (by dsimp only; omega) _).setCell (p := ⟨b3, k, none⟩) (by dsimp only; omega) _⟩
          case measure => simp [intOf]; omega
        · have q0 : c0 - 97 + 10 = v0 := by have := o04 a0; omega
          have q1 : c1 - 48 = v1 := by have := o15 a1; omega
          clear o04 o05 o14 o15
          go_wp2
          refine wp_loop_rounds 3 ?_
          rw [rounds_succ]; go_wp2
          rw [rounds_succ]; go_wp2
          rw [rounds_succ]; go_wp2
          go_roundw
          case rel => exact ⟨k + 1, by omega, by go_num, there_set (there_set HD.out _ _ _) _ _ _, HS1, (HB.out.setCell (p := ⟨b3, k, none⟩) (by dsimp only; omega) _).setCell (p := ⟨b3, k, none⟩) (by dsimp only; omega) _⟩
          case measure => simp [intOf]; omega
      · by_cases a1 : 97 ≤ c1
        · have q0 : c0 - 48 = v0 := by have := o05 a0; omega
          have q1 : c1 - 97 + 10 = v1 := by have := o14 a1; omega
          clear o04 o05 o14 o15
          go_wp2
          refine wp_loop_rounds 3 ?_
          rw [rounds_succ]; go_wp2
          rw [rounds_succ]; go_wp2
          rw [rounds_succ]; go_wp2
          go_roundw
          case rel => exact ⟨k + 1, by omega, by go_num, there_set (there_set HD.out _ _ _) _ _ _, HS1, (HB.out.setCell (p := ⟨b3, k, none⟩) (by dsimp only; omega) _).setCell (p := ⟨b3, k, none⟩) (by dsimp only; omega) _⟩
          case measure => simp [intOf]; omega
        · have q0 : c0 - 48 = v0 := by have := o05 a0; omega
          have q1 : c1 - 48 = v1 := by have := o15 a1; omega
          clear o04 o05 o14 o15
          go_wp2
          refine wp_loop_rounds 3 ?_
          rw [rounds_succ]; go_wp2
          rw [rounds_succ]; go_wp2
          rw [rounds_succ]; go_wp2
          go_roundw
          case rel => exact ⟨k + 1, by omega, by go_num, there_set (there_set HD.out _ _ _) _ _ _, HS1, (HB.out.setCell (p := ⟨b3, k, none⟩) (by dsimp only; omega) _).setCell (p := ⟨b3, k, none⟩) (by dsimp only; omega) _⟩
          case measure => simp [intOf]; omega
    · have e : k = 32 := by omega
      subst e
      have hp : pad (hxl (sd s) 32) = hxl (sd s) 32 := by unfold pad; rw [hxl_len]; simp
      have HR : Hid (wr.rangeAt b3 0 (List.map (Value.int .u8) (hxl (sd s) 32))) := by unfold Hid; rw [← hp]; exact HA.out.rng
      have HY : Hid (By (hxl (sd s) 32)) := ⟨hxl_len _ _, hxl_byt HOK.out 32 (by rw [HSL.out]; decide)⟩
      obtain ⟨hlen, hone, hi⟩ := by_cells HY.out
      obtain ⟨cs, HC⟩ : ∃ cs, Hid (cs = (List.map (Value.int .u8) (hxl (sd s) 32))) := ⟨_, rfl⟩
      rw [← HC.out] at hlen hone hi HR
      have hth := HD.out
      go_wp2_with (first
        | (refine wpList_load_mid rfl 22 (.tmp 3) rfl b3 0 rfl cs _ HR.out Tryd.underlying22 rfl hi ?_)
        | (refine wpList_store_mid rfl 22 (.tmp 2) (.tmp 37) rfl (w.heap.size) 0 cs.toArray rfl rfl (by simpa [hlen] using hth) (by simpa using hi) (all_oneCell_toArray hone) ?_))
      have HR2 : Hid ((wr.setCells w.heap.size 0 cs).rangeAt w.heap.size 0 cs) := World.rangeAt_setCells_same _ _ _ _ (by rw [hlen]; exact hth)
      have hld := run_loadVar_mid (P := Tryd.prog) _ _ 0 22 _ _ HR2.out Tryd.underlying22 rfl hi
      exact bodyPost_ret (v := .agg cs.toArray) (by simp [results, Tryd.results17]; exact hld) rfl ⟨hxl (sd s) 32, by rw [HC.out], rfl, HY, below_setCells _ (by omega) _ _ _ HB.out⟩
end Go.Proofs.YtggjifpcoidipaaDoor
