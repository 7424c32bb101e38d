/-
  What portholelaw1's 'known' answers: true, whatever lies in memory, and nothing old is turned. No statement of the seat is proved here.
-/
import Derived.Test.YtdndgjacpnjjaaaJoin
namespace Go.Proofs.Ytdndgjacpnjjaaa
open Go.RowKit

/-! ### The contracts once more, each new block a letter -/
theorem put32_g (n : Int) (w : World) (h0 : 0 ≤ n) (h1 : n < 4294967296) :
    Calls Try.prog 12 #[.int .u32 n] w fun e w' => ∃ g, e = .returned (.slice (some ⟨g, 0, none⟩) 4 4) ∧ Rd w' (some ⟨g, 0, none⟩) 4 4 (lay 4 n) ∧ Below w.heap.size w w' :=
  (put32_any n w h0 h1).mono fun _ _ ⟨h, r⟩ => ⟨_, h, r⟩
theorem put64_g (n : Int) (w : World) (h0 : 0 ≤ n) (h1 : n < 18446744073709551616) :
    Calls Try.prog 13 #[.int .u64 n] w fun e w' => ∃ g, e = .returned (.slice (some ⟨g, 0, none⟩) 8 8) ∧ Rd w' (some ⟨g, 0, none⟩) 8 8 (lay 8 n) ∧ Below w.heap.size w w' :=
  (put64_any n w h0 h1).mono fun _ _ ⟨h, r⟩ => ⟨_, h, r⟩
theorem refput32_g (n : Int) (w : World) (h0 : 0 ≤ n) (h1 : n < 4294967296) :
    Calls Try.prog 15 #[.int .u32 n] w fun e w' => ∃ g, e = .returned (.slice (some ⟨g, 0, none⟩) 4 4) ∧ Rd w' (some ⟨g, 0, none⟩) 4 4 (lay 4 n) ∧ Below w.heap.size w w' :=
  (refput32_any n w h0 h1).mono fun _ _ ⟨h, ho, r⟩ => ⟨_, h, Rd.owns (lay_byt _ _) ho, r⟩
theorem xor_g (a : Option Addr) (la ca : Nat) (x : List Int) (b : Option Addr) (lb cb : Nat) (y : List Int) (w : World) (ha : Rd w a la ca x) (hb : Rd w b lb cb y) (ma : la ≤ 281474976710656) (mb : lb ≤ 281474976710656) :
    Calls Try.prog 18 #[.slice a la ca, .slice b lb cb] w fun e w' => ∃ g m, e = .returned (.slice (some ⟨g, 0, none⟩) m m) ∧ Hid (m = min la lb) ∧
      w'.ownsRow w.heap.size 5 1 (.slice (some ⟨g, 0, none⟩) m m) m ((xorL x y).map (Value.int .u8)) ∧ Rd w' (some ⟨g, 0, none⟩) m m (xorL x y) ∧ Below w.heap.size w w' :=
  (xor_any a la ca x b lb cb y w ha hb ma mb).mono fun _ _ ⟨h, ho, r⟩ => ⟨_, _, h, rfl, ho, Rd.owns (xorL_byt ha.byt hb.byt) ho, r⟩
theorem byt_flatten {L : List (List Int)} (h : ∀ l ∈ L, Byt l) : Byt L.flatten := by
  intro x hx
  obtain ⟨l, hl, hxl⟩ := List.mem_flatten.1 hx
  exact h l hl x hxl
theorem RdL.byt {w : World} {a : Option Addr} {len : Nat} {L : List (List Int)} (h : RdL w a len L) : Byt L.flatten := by
  apply byt_flatten
  intro l hl
  obtain ⟨i, hi, rfl⟩ := List.mem_iff_getElem.1 hl
  have hlen := h.hlen
  obtain ⟨b, off, _, hc⟩ := h.cell (by omega)
  obtain ⟨_, _, _, _, hr⟩ := hc i (by omega)
  rw [List.getElem?_eq_getElem hi] at hr
  exact hr.byt
theorem join_g (a : Option Addr) (len cap : Nat) (L : List (List Int)) (w : World) (h : RdL w a len L) (hlen : len ≤ 281474976710656) (hT : L.flatten.length ≤ 281474976710656) :
    Calls Try.prog 10 #[.slice a len cap] w fun e w' => ∃ g m, e = .returned (.slice (some ⟨g, 0, none⟩) m m) ∧ Hid (m = L.flatten.length) ∧
      w'.ownsRow w.heap.size 5 1 (.slice (some ⟨g, 0, none⟩) m m) m (L.flatten.map (Value.int .u8)) ∧ Rd w' (some ⟨g, 0, none⟩) m m L.flatten ∧ Below w.heap.size w w' :=
  (join_any a len cap L w h hlen hT).mono fun _ _ ⟨h1, ho, r⟩ => ⟨_, _, h1, rfl, ho, Rd.owns h.byt ho, r⟩

/-- 'string(b)' at this program's types. -/
theorem str_run {w : World} {a : Option Addr} {len cap : Nat} {l : List Int} (h : Rd w a len cap l) (s : ByteArray) (hs : strOfNums l = s) : (convert 25 9 (.slice a len cap)).run Try.prog w = .ok (.string s) w := by
  rw [← hs]
  exact h.str 25 5 9 Try.underlying25 Try.underlying5 Try.underlying9
/-- A literal of one to eight bytes, just laid. -/
theorem rd_lit (w : World) (l : List Int) (hb : Byt l) (cs : Array Value) (hcs : cs = (l.map (Value.int .u8)).toArray) (n : Nat) (hn : l.length = n) : Rd (w.alloc (.cells cs 5)) (some ⟨w.heap.size, 0, none⟩) n n l := by
  subst hcs hn
  exact Rd.laid w l hb 5 l.length (Nat.le_refl _) _ (fun i hi => by simp [List.getElem?_eq_getElem hi])
theorem byt_dec (l : List Int) (h : l.all (fun x => decide (0 ≤ x) && decide (x ≤ 255)) = true) : Byt l := by
  intro x hx
  have := List.all_eq_true.1 h x hx
  simpa using this

set_option maxHeartbeats 1000000 in
theorem known_any (w : World) : Calls Try.prog 8 #[] w fun e w' => e = .returned (.bool true) ∧ Below w.heap.size w w' := by
  go_enter Try.func8, Try.ntmps8
  go_wp2_with fail
  refine (get32_any _ _ _ [1, 2, 0, 0, 9] _ (rd_lit w [1, 2, 0, 0, 9] (byt_dec _ (by decide)) _ rfl 5 rfl) (by decide)).mono ?_
  rintro e w' ⟨rfl, rfl⟩
  rw [show got 4 [1, 2, 0, 0, 9] = 513 from by decide]
  go_wp2_with fail
  refine (put32_g _ _ (by decide) (by decide)).mono ?_
  rintro e w2 ⟨g, rfl, hrd, hb⟩
  have hs := str_run hrd ⟨#[2, 1, 0, 0]⟩ (by decide)
  have HB : Hid (Below w.heap.size w w2) := ((Below.refl _ _).alloc (Nat.le_refl _) _).trans (hb.mono (by simp))
  clear hrd hb
  go_wp2_with fail
  refine (xor_g _ _ _ [15] _ _ _ [240, 1] _ ((rd_lit w2 [15] (byt_dec _ (by decide)) _ rfl 1 rfl).alloc _) (by simpa using rd_lit (w2.alloc _) [240, 1] (byt_dec _ (by decide)) _ rfl 2 rfl) (by decide) (by decide)).mono ?_
  rintro e w3 ⟨g2, m, rfl, hm, ho, hrd, hb⟩
  have hs3 := str_run hrd ⟨#[255]⟩ (by decide)
  have HB3 : Hid (Below w.heap.size w w3) := (((HB.out.alloc HB.out.size _).alloc (by have := HB.out.size; simp; omega) _)).trans (hb.mono (by have := HB.out.size; simp; omega))
  clear hrd hb ho hm hs
  go_wp2
  go_ret
  exact ⟨rfl, HB3.out⟩
end Go.Proofs.Ytdndgjacpnjjaaa
