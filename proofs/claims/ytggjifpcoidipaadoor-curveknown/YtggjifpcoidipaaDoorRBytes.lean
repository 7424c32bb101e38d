/-
  What the reference's Bytes does. No statement of the seat is proved here.
-/
import Derived.Test.YtggjifpcoidipaaDoorRFrom
namespace Go.Proofs.YtggjifpcoidipaaDoor
open Go.RowKit

def ub : List Int → List Int
  | [] => []
  | d :: l => d % 256 :: d / 256 % 256 :: ub l
theorem ub_len : ∀ l : List Int, (ub l).length = 2 * l.length
  | [] => rfl
  | d :: l => by rw [ub, List.length_cons, List.length_cons, ub_len l, List.length_cons]; omega
theorem ub_app : ∀ (a b : List Int), ub (a ++ b) = ub a ++ ub b
  | [], b => rfl
  | d :: a, b => by rw [List.cons_append, ub, ub_app a b, ub, List.cons_append, List.cons_append]
theorem ub_dg : ∀ (k : Nat) (x : Int), ub (dg k x) = lay (2 * k) x
  | 0, _ => rfl
  | k + 1, x => by
    rw [dg, ub, ub_dg k, show 2 * (k + 1) = 2 * k + 1 + 1 by omega, lay, lay]
    have e1 : x % 65536 % 256 = x % 256 := by omega
    have e2 : x % 65536 / 256 % 256 = x / 256 % 256 := by omega
    have e3 : x / 65536 = x / 256 / 256 := by omega
    rw [e1, e2, e3]
theorem two_set (U R : List Int) (a b x y : Int) (i : Nat) (h : U.length = i) : ((U ++ a :: b :: R).set i x).set (i + 1) y = U ++ x :: y :: R := by
  subst h
  rw [set_mid]
  have : U ++ x :: b :: R = (U ++ [x]) ++ b :: R := by simp
  rw [this]
  have e : U.length + 1 = (U ++ [x]).length := by simp
  rw [e, set_mid]
  simp
theorem arr_set {u : World} {b : Nat} {l : List Int} (h : Arr u b (List.map (Value.int .u8) l)) (i : Nat) (hi : i < l.length) (x : Int) : Arr (u.setCell ⟨b, i, none⟩ (.int .u8 x)) b (List.map (Value.int .u8) (l.set i x)) :=
  ⟨by rw [List.map_set]; exact range_set h.rng (by rw [List.length_map]; exact hi) _, there_set h.all _ _ _⟩

set_option maxHeartbeats 4000000 in
theorem rbytes_any (l : List Int) (x : Int) (HX : Hid (l = dg 16 x)) (w : World) :
    Calls Tryd.prog 12 #[.agg (List.map (Value.int .u64) l).toArray] w fun e w' => e = .returned (.agg (List.map (Value.int .u8) (lay 32 x)).toArray) ∧ Below w.heap.size w w' := by
  have hl : l.length = 16 := by rw [HX.out, dg_length]
  have hd : Dg l := by rw [HX.out]; exact dg_dg _ _
  have HU : Hid (ub l = lay 32 x) := by unfold Hid; rw [HX.out, ub_dg]
  clear HX
  go_enter Tryd.func12, Tryd.ntmps12
  go_wp2
  have HL : Hid (Wrd (((w.alloc (.cells (List.map (Value.int .u64) l).toArray 31)).alloc (.cells #[.int .u8 0, .int .u8 0, .int .u8 0, .int .u8 0, .int .u8 0, .int .u8 0, .int .u8 0, .int .u8 0, .int .u8 0, .int .u8 0, .int .u8 0, .int .u8 0, .int .u8 0, .int .u8 0, .int .u8 0, .int .u8 0, .int .u8 0, .int .u8 0, .int .u8 0, .int .u8 0, .int .u8 0, .int .u8 0, .int .u8 0, .int .u8 0, .int .u8 0, .int .u8 0, .int .u8 0, .int .u8 0, .int .u8 0, .int .u8 0, .int .u8 0, .int .u8 0] 22)).alloc (.cells #[.int .u8 0, .int .u8 0, .int .u8 0, .int .u8 0, .int .u8 0, .int .u8 0, .int .u8 0, .int .u8 0, .int .u8 0, .int .u8 0, .int .u8 0, .int .u8 0, .int .u8 0, .int .u8 0, .int .u8 0, .int .u8 0, .int .u8 0, .int .u8 0, .int .u8 0, .int .u8 0, .int .u8 0, .int .u8 0, .int .u8 0, .int .u8 0, .int .u8 0, .int .u8 0, .int .u8 0, .int .u8 0, .int .u8 0, .int .u8 0, .int .u8 0, .int .u8 0] 22)) (w.heap.size) l) := ((wrd_box w l hl _).later (bel1 _ (.cells #[.int .u8 0, .int .u8 0, .int .u8 0, .int .u8 0, .int .u8 0, .int .u8 0, .int .u8 0, .int .u8 0, .int .u8 0, .int .u8 0, .int .u8 0, .int .u8 0, .int .u8 0, .int .u8 0, .int .u8 0, .int .u8 0, .int .u8 0, .int .u8 0, .int .u8 0, .int .u8 0, .int .u8 0, .int .u8 0, .int .u8 0, .int .u8 0, .int .u8 0, .int .u8 0, .int .u8 0, .int .u8 0, .int .u8 0, .int .u8 0, .int .u8 0, .int .u8 0] 22))).later (bel1 _ _)
  have HD : Hid ((((w.alloc (.cells (List.map (Value.int .u64) l).toArray 31)).alloc (.cells #[.int .u8 0, .int .u8 0, .int .u8 0, .int .u8 0, .int .u8 0, .int .u8 0, .int .u8 0, .int .u8 0, .int .u8 0, .int .u8 0, .int .u8 0, .int .u8 0, .int .u8 0, .int .u8 0, .int .u8 0, .int .u8 0, .int .u8 0, .int .u8 0, .int .u8 0, .int .u8 0, .int .u8 0, .int .u8 0, .int .u8 0, .int .u8 0, .int .u8 0, .int .u8 0, .int .u8 0, .int .u8 0, .int .u8 0, .int .u8 0, .int .u8 0, .int .u8 0] 22)).alloc (.cells #[.int .u8 0, .int .u8 0, .int .u8 0, .int .u8 0, .int .u8 0, .int .u8 0, .int .u8 0, .int .u8 0, .int .u8 0, .int .u8 0, .int .u8 0, .int .u8 0, .int .u8 0, .int .u8 0, .int .u8 0, .int .u8 0, .int .u8 0, .int .u8 0, .int .u8 0, .int .u8 0, .int .u8 0, .int .u8 0, .int .u8 0, .int .u8 0, .int .u8 0, .int .u8 0, .int .u8 0, .int .u8 0, .int .u8 0, .int .u8 0, .int .u8 0, .int .u8 0] 22)).there (w.heap.size + 1) 0 32) := by have := there_later (bel1 _ (.cells #[.int .u8 0, .int .u8 0, .int .u8 0, .int .u8 0, .int .u8 0, .int .u8 0, .int .u8 0, .int .u8 0, .int .u8 0, .int .u8 0, .int .u8 0, .int .u8 0, .int .u8 0, .int .u8 0, .int .u8 0, .int .u8 0, .int .u8 0, .int .u8 0, .int .u8 0, .int .u8 0, .int .u8 0, .int .u8 0, .int .u8 0, .int .u8 0, .int .u8 0, .int .u8 0, .int .u8 0, .int .u8 0, .int .u8 0, .int .u8 0, .int .u8 0, .int .u8 0] 22)) (there_new (w.alloc (.cells (List.map (Value.int .u64) l).toArray 31)) 32 #[.int .u8 0, .int .u8 0, .int .u8 0, .int .u8 0, .int .u8 0, .int .u8 0, .int .u8 0, .int .u8 0, .int .u8 0, .int .u8 0, .int .u8 0, .int .u8 0, .int .u8 0, .int .u8 0, .int .u8 0, .int .u8 0, .int .u8 0, .int .u8 0, .int .u8 0, .int .u8 0, .int .u8 0, .int .u8 0, .int .u8 0, .int .u8 0, .int .u8 0, .int .u8 0, .int .u8 0, .int .u8 0, .int .u8 0, .int .u8 0, .int .u8 0, .int .u8 0] rfl 22); simpa [Hid] using this
  have HN : Hid (Arr (((w.alloc (.cells (List.map (Value.int .u64) l).toArray 31)).alloc (.cells #[.int .u8 0, .int .u8 0, .int .u8 0, .int .u8 0, .int .u8 0, .int .u8 0, .int .u8 0, .int .u8 0, .int .u8 0, .int .u8 0, .int .u8 0, .int .u8 0, .int .u8 0, .int .u8 0, .int .u8 0, .int .u8 0, .int .u8 0, .int .u8 0, .int .u8 0, .int .u8 0, .int .u8 0, .int .u8 0, .int .u8 0, .int .u8 0, .int .u8 0, .int .u8 0, .int .u8 0, .int .u8 0, .int .u8 0, .int .u8 0, .int .u8 0, .int .u8 0] 22)).alloc (.cells #[.int .u8 0, .int .u8 0, .int .u8 0, .int .u8 0, .int .u8 0, .int .u8 0, .int .u8 0, .int .u8 0, .int .u8 0, .int .u8 0, .int .u8 0, .int .u8 0, .int .u8 0, .int .u8 0, .int .u8 0, .int .u8 0, .int .u8 0, .int .u8 0, .int .u8 0, .int .u8 0, .int .u8 0, .int .u8 0, .int .u8 0, .int .u8 0, .int .u8 0, .int .u8 0, .int .u8 0, .int .u8 0, .int .u8 0, .int .u8 0, .int .u8 0, .int .u8 0] 22)) (w.heap.size + 1 + 1) (List.map (Value.int .u8) (List.replicate 32 (0 : Int)))) := by have := arr_box ((w.alloc (.cells (List.map (Value.int .u64) l).toArray 31)).alloc (.cells #[.int .u8 0, .int .u8 0, .int .u8 0, .int .u8 0, .int .u8 0, .int .u8 0, .int .u8 0, .int .u8 0, .int .u8 0, .int .u8 0, .int .u8 0, .int .u8 0, .int .u8 0, .int .u8 0, .int .u8 0, .int .u8 0, .int .u8 0, .int .u8 0, .int .u8 0, .int .u8 0, .int .u8 0, .int .u8 0, .int .u8 0, .int .u8 0, .int .u8 0, .int .u8 0, .int .u8 0, .int .u8 0, .int .u8 0, .int .u8 0, .int .u8 0, .int .u8 0] 22)) (List.replicate 32 0) ⟨rfl, fun x hx => by rw [(List.mem_replicate.1 hx).2]; decide⟩; simpa [Hid] using this
  have HB : Hid (Below w.heap.size w (((w.alloc (.cells (List.map (Value.int .u64) l).toArray 31)).alloc (.cells #[.int .u8 0, .int .u8 0, .int .u8 0, .int .u8 0, .int .u8 0, .int .u8 0, .int .u8 0, .int .u8 0, .int .u8 0, .int .u8 0, .int .u8 0, .int .u8 0, .int .u8 0, .int .u8 0, .int .u8 0, .int .u8 0, .int .u8 0, .int .u8 0, .int .u8 0, .int .u8 0, .int .u8 0, .int .u8 0, .int .u8 0, .int .u8 0, .int .u8 0, .int .u8 0, .int .u8 0, .int .u8 0, .int .u8 0, .int .u8 0, .int .u8 0, .int .u8 0] 22)).alloc (.cells #[.int .u8 0, .int .u8 0, .int .u8 0, .int .u8 0, .int .u8 0, .int .u8 0, .int .u8 0, .int .u8 0, .int .u8 0, .int .u8 0, .int .u8 0, .int .u8 0, .int .u8 0, .int .u8 0, .int .u8 0, .int .u8 0, .int .u8 0, .int .u8 0, .int .u8 0, .int .u8 0, .int .u8 0, .int .u8 0, .int .u8 0, .int .u8 0, .int .u8 0, .int .u8 0, .int .u8 0, .int .u8 0, .int .u8 0, .int .u8 0, .int .u8 0, .int .u8 0] 22))) := bel3 _ _ _ _
  generalize ((w.alloc (.cells (List.map (Value.int .u64) l).toArray 31)).alloc (.cells #[.int .u8 0, .int .u8 0, .int .u8 0, .int .u8 0, .int .u8 0, .int .u8 0, .int .u8 0, .int .u8 0, .int .u8 0, .int .u8 0, .int .u8 0, .int .u8 0, .int .u8 0, .int .u8 0, .int .u8 0, .int .u8 0, .int .u8 0, .int .u8 0, .int .u8 0, .int .u8 0, .int .u8 0, .int .u8 0, .int .u8 0, .int .u8 0, .int .u8 0, .int .u8 0, .int .u8 0, .int .u8 0, .int .u8 0, .int .u8 0, .int .u8 0, .int .u8 0] 22)).alloc (.cells #[.int .u8 0, .int .u8 0, .int .u8 0, .int .u8 0, .int .u8 0, .int .u8 0, .int .u8 0, .int .u8 0, .int .u8 0, .int .u8 0, .int .u8 0, .int .u8 0, .int .u8 0, .int .u8 0, .int .u8 0, .int .u8 0, .int .u8 0, .int .u8 0, .int .u8 0, .int .u8 0, .int .u8 0, .int .u8 0, .int .u8 0, .int .u8 0, .int .u8 0, .int .u8 0, .int .u8 0, .int .u8 0, .int .u8 0, .int .u8 0, .int .u8 0, .int .u8 0] 22) = W0 at *
  have k1 : w.heap.size < w.heap.size + 1 := by omega
  have k2 : w.heap.size + 1 < w.heap.size + 1 + 1 := by omega
  generalize w.heap.size + 1 + 1 = b2 at *
  generalize w.heap.size + 1 = b1 at *
  go_loopw [4] (fun i wl => ∃ j : Nat, j ≤ 16 ∧ i = .int .i64 j ∧ Hid (Arr wl b2 (List.map (Value.int .u8) (ub (l.take j) ++ (List.replicate 32 (0 : Int)).drop (2 * j)))) ∧ Hid (Wrd wl (w.heap.size) l) ∧ Hid (wl.there b1 0 32) ∧ Hid (Below w.heap.size w wl)) (fun i _ => 16 - (intOf i).toNat)
  case atStart => exact ⟨0, by decide, rfl, by simpa [Hid, ub] using HN, HL, HD, HB⟩
  case round =>
    clear HL HN HD HB
    obtain ⟨j, hj, rfl, HN, HL, HD, HB⟩ := hrel
    by_cases hlt : j < 16
    · have h1 : j < l.length := by omega
      have HS : Hid (ub (l.take (j + 1)) = ub (l.take j) ++ [l[j] % 256, l[j] / 256 % 256]) := by unfold Hid; rw [take_snoc _ _ h1, ub_app]; rfl
      have rd := hd.at j h1
      have c1 := (HL.out.cell j h1 hl).1
      have htl : (ub (l.take j)).length = 2 * j := by rw [ub_len, List.length_take]; omega
      have er : (List.replicate 32 (0 : Int)).drop (2 * j) = 0 :: 0 :: (List.replicate 32 (0 : Int)).drop (2 * (j + 1)) := by
        have a1 : 2 * j < (List.replicate 32 (0 : Int)).length := by rw [List.length_replicate]; omega
        have a2 : 2 * j + 1 < (List.replicate 32 (0 : Int)).length := by rw [List.length_replicate]; omega
        rw [drop_cons a1, drop_cons a2, List.getElem_replicate, List.getElem_replicate]
        rfl
      have HN' : Hid (Arr wr b2 (List.map (Value.int .u8) (ub (l.take j) ++ 0 :: 0 :: (List.replicate 32 (0 : Int)).drop (2 * (j + 1))))) := by unfold Hid; rw [← er]; exact HN.out
      have hlen : (ub (l.take j) ++ 0 :: 0 :: (List.replicate 32 (0 : Int)).drop (2 * (j + 1))).length = 32 := by simp only [List.length_append, List.length_cons, List.length_drop, List.length_replicate, htl]; omega
      obtain ⟨v1, c2, f2⟩ := there_cell HN'.out.all (2 * j) (by omega)
      obtain ⟨v2, c3, f3⟩ := there_cell HN'.out.all (2 * j + 1) (by omega)
      generalize l[j] = r at *
      obtain ⟨r0, r1⟩ := rd
      have g1 : (j : Int) < 16 := by omega
      have g2 : 2 * (j : Int) < 32 := by omega
      have g3 : 2 * (j : Int) + 1 < 32 := by omega
      clear HN er
      go_wp2
      go_roundw
      case rel => exact ⟨j + 1, by omega, by go_num, by
        have := arr_set (arr_set HN'.out (2 * j) (by omega) (r % 256)) (2 * j + 1) (by rw [List.length_set]; omega) (r / 256)
        rw [two_set _ _ _ _ _ _ _ htl] at this
        unfold Hid
        rw [HS.out, show r / 256 % 256 = r / 256 by omega, List.append_assoc]
        exact this, (HL.out.other (by omega) _ _).other (by omega) _ _, there_set (there_set HD.out _ _ _) _ _ _, (HB.out.setCell (p := ⟨b2, 2 * j, none⟩) (by dsimp only; omega) _).setCell (p := ⟨b2, 2 * j + 1, none⟩) (by dsimp only; omega) _⟩
      case measure => simp [intOf]; omega
    · have e : j = 16 := by omega
      subst e
      have HN' : Hid (Arr wr b2 (List.map (Value.int .u8) (lay 32 x))) := by
        have := HN.out
        rw [List.take_of_length_le (by omega), List.drop_eq_nil_of_le (by simp), List.append_nil, HU.out] at this
        exact this
      clear HN
      obtain ⟨hlen, hone, hi⟩ := by_cells (lay_by x)
      generalize hcs : (List.map (Value.int .u8) (lay 32 x)) = cs at *
      have HC : Hid ((List.map (Value.int .u8) (lay 32 x)) = cs) := hcs
      clear hcs
      go_wp2_with (first
        | (refine wpList_load_mid rfl 22 (.tmp 3) rfl b2 0 rfl cs _ HN'.out.rng Tryd.underlying22 rfl hi ?_)
        | (refine wpList_store_mid rfl 22 (.tmp 2) (.tmp 25) rfl b1 0 cs.toArray rfl rfl (by simpa [hlen] using HD.out) (by simpa using hi) (all_oneCell_toArray hone) ?_))
      have HR2 : Hid ((wr.setCells b1 0 cs).rangeAt b1 0 cs) := World.rangeAt_setCells_same _ _ _ _ (by rw [hlen]; exact HD.out)
      have hld := run_loadVar_mid (P := Tryd.prog) _ _ 0 22 _ _ HR2.out Tryd.underlying22 rfl hi
      exact bodyPost_ret (v := .agg cs.toArray) (by simp [results, Tryd.results12]; exact hld) rfl ⟨by rw [HC.out], below_setCells _ (by omega) _ _ _ HB.out⟩
end Go.Proofs.YtggjifpcoidipaaDoor
