/-
  What the reference's Put32, Put64, Get32 and portholehand.Few do, each by its walk. No statement of the seat is proved here.
-/
import Derived.Test.YtdndgjacpnjjaaaNums
import Derived.Deep.QuietTactic
import Derived.BigQuiet
namespace Go.Proofs.Ytdndgjacpnjjaaa
open Go.RowKit

theorem info5 : (Try.prog.info? 5).map (fun i => (i.zero, i.size, i.bytes)) = some (some (.int .u8 0), 1, 1) := by kernel_rfl

set_option maxHeartbeats 400000 in
theorem refget32_any (a : Option Addr) (len cap : Nat) (l : List Int) (w : World) (hr : Rd w a len cap l) (h4 : 4 ≤ len) :
    Calls Try.prog 14 #[.slice a len cap] w fun e w' => e = .returned (.int .u32 (got 4 l)) ∧ ∃ n, w' = w.drewN n := by
  obtain ⟨hl, hle, _, hb, hcell⟩ := hr
  obtain ⟨b, off, rfl, hc⟩ := hcell (by omega)
  have c0 := hc 0 (by omega)
  rw [Nat.add_zero] at c0
  have c1 := hc 1 (by omega)
  have c2 := hc 2 (by omega)
  have c3 := hc 3 (by omega)
  have b0 := hb.at 0
  have b1 := hb.at 1
  have b2 := hb.at 2
  have b3 := hb.at 3
  have H : Hid (got 4 l = l[0]?.getD 0 + l[1]?.getD 0 * 256 + l[2]?.getD 0 * 65536 + l[3]?.getD 0 * 16777216) := by
    unfold Hid got
    rw [if_pos (by omega), leN_take4 l (by omega)]
  clear hc hb hcell hl hle
  generalize l[0]?.getD 0 = x0 at *
  generalize l[1]?.getD 0 = x1 at *
  generalize l[2]?.getD 0 = x2 at *
  generalize l[3]?.getD 0 = x3 at *
  have i0 : (0 : Int) < len := by omega
  have i1 : (1 : Int) < len := by omega
  have i2 : (2 : Int) < len := by omega
  have i3 : (3 : Int) < len := by omega
  go_enter Try.func14, Try.ntmps14
  go_wp2
  go_quiet (fail)
  go_wp2
  go_ret
  exact ⟨ret_num H.out.symm, nq, rfl⟩

set_option maxHeartbeats 400000 in
theorem refput32_any (n : Int) (w : World) (h0 : 0 ≤ n) (h1 : n < 4294967296) :
    Calls Try.prog 15 #[.int .u32 n] w fun e w' => e = .returned (.slice (some ⟨w.heap.size, 0, none⟩) 4 4) ∧ w'.ownsRow w.heap.size 5 1 (.slice (some ⟨w.heap.size, 0, none⟩) 4 4) 4 ((lay 4 n).map (Value.int .u8)) ∧ Below w.heap.size w w' := by
  have H : Hid (∀ cs : Array Value, cs = #[.int .u8 (n % 256), .int .u8 (n / 256 % 256), .int .u8 (n / 65536 % 256), .int .u8 (n / 16777216)] → (w.alloc (.cells cs 5)).ownsRow w.heap.size 5 1 (.slice (some ⟨w.heap.size, 0, none⟩) 4 4) 4 ((lay 4 n).map (Value.int .u8))) := by
    intro cs hcs
    rw [lay4_eq n h0 h1]
    have := World.ownsRow_lit (e := 5) (size := 1) (base := w.heap.size) w cs 4 (Nat.le_refl _) (by decide) (by rw [hcs]; rfl)
    rw [hcs] at this ⊢
    exact this
  go_enter Try.func15, Try.ntmps15
  go_wp2
  go_ret
  exact ⟨rfl, H.out _ rfl, (Below.refl _ _).alloc (Nat.le_refl _) _⟩

set_option maxHeartbeats 400000 in
theorem few_some (x : Addr) (len cap : Nat) (l : List Int) (n : Nat) (w : World) (hr : Rd w (some x) len cap l) (hm : len ≤ 140737488351232) (h1 : n ≤ 281474976710656) :
    Calls Try.prog 17 #[.slice (some x) len cap, .int .i64 n] w fun e w' => ∃ v, e = .returned v ∧ w'.ownsRow w.heap.size 5 1 v (l.take n).length ((l.take n).map (Value.int .u8)) ∧ Below w.heap.size w w' := by
  obtain ⟨i0, hi, hz0, hz1, hz2⟩ := info_parts info5
  have HO : Hid ((w.alloc (.cells #[] 5)).ownsRow w.heap.size 5 1 (.slice (some ⟨w.heap.size, 0, none⟩) 0 0) 0 []) := World.ownsRow_made w #[] 0 (Nat.le_refl _) (by decide) rfl
  have HN : Hid (∀ k j u, ((l.take k).map (Value.int .u8))[j]? = some u → (w.alloc (.cells #[] 5)).cell? (x.add j) = some u) := fun k => (hr.alloc (.cells #[] 5)).news k
  have HL : Hid (l.length = len) := hr.hlen
  have hle := hr.hle
  have HR : Hid (Rd w (some x) len cap l) := hr
  clear hr
  by_cases hn : n < len
  · go_enter Try.func17, Try.ntmps17
    go_wp2_with (at_builtin; refine wpList_append_own _ rfl (.tmp 5) (.tmp 11) 25 rfl w.heap.size 5 i0 (.int .u8 0) 1 1 Try.underlying25 hi hz0 hz1 hz2 rfl (by decide) _ 0 [] rfl HO.out x n cap ((l.take n).map (Value.int .u8)) rfl ?c1 (HN.out n) (bytes_oneCell _) ?c2 ?c3 ?c4 ?_)
    case c1 => have := HL.out; simp; omega
    case c2 => unfold maxLen; omega
    case c3 => omega
    case c4 => simp
    intro v' w1 hown hg _
    go_wp2
    go_ret
    refine ⟨v', rfl, ?_, ?_⟩
    · have := HL.out
      have e : (l.take n).length = 0 + n := by simp; omega
      rw [e]
      simpa using hown
    · exact ((Below.refl _ _).alloc (Nat.le_refl _) _).grown hg (by simp) (fun k hk => by simp [Value.ownBlock] at hk; omega)
  · go_enter Try.func17, Try.ntmps17
    go_wp2_with (at_builtin; refine wpList_append_own _ rfl (.tmp 5) (.tmp 11) 25 rfl w.heap.size 5 i0 (.int .u8 0) 1 1 Try.underlying25 hi hz0 hz1 hz2 rfl (by decide) _ 0 [] rfl HO.out x len cap ((l.take n).map (Value.int .u8)) rfl ?d1 (HN.out n) (bytes_oneCell _) ?d2 ?d3 ?d4 ?_)
    case d1 => have := HL.out; simp; omega
    case d2 => unfold maxLen; omega
    case d3 => omega
    case d4 => simp
    intro v' w1 hown hg _
    go_wp2
    go_ret
    refine ⟨v', rfl, ?_, ?_⟩
    · have := HL.out
      have e : (l.take n).length = 0 + len := by simp; omega
      rw [e]
      simpa using hown
    · exact ((Below.refl _ _).alloc (Nat.le_refl _) _).grown hg (by simp) (fun k hk => by simp [Value.ownBlock] at hk; omega)

set_option maxHeartbeats 400000 in
theorem few_none (n : Nat) (w : World) (h1 : n ≤ 281474976710656) :
    Calls Try.prog 17 #[.slice none 0 0, .int .i64 n] w fun e w' => e = .returned (.slice (some ⟨w.heap.size, 0, none⟩) 0 0) ∧ w'.ownsRow w.heap.size 5 1 (.slice (some ⟨w.heap.size, 0, none⟩) 0 0) 0 [] ∧ Below w.heap.size w w' := by
  have HO : Hid ((w.alloc (.cells #[] 5)).ownsRow w.heap.size 5 1 (.slice (some ⟨w.heap.size, 0, none⟩) 0 0) 0 []) := World.ownsRow_made w #[] 0 (Nat.le_refl _) (by decide) rfl
  by_cases hn : n = 0
  · subst hn
    go_enter Try.func17, Try.ntmps17
    go_wp2
    go_ret
    exact ⟨rfl, HO.out, (Below.refl _ _).alloc (Nat.le_refl _) _⟩
  · go_enter Try.func17, Try.ntmps17
    go_wp2
    go_ret
    exact ⟨rfl, HO.out, (Below.refl _ _).alloc (Nat.le_refl _) _⟩

/-- 'Few(b, n)': the first n bytes at most, in new memory. -/
theorem few_any (a : Option Addr) (len cap : Nat) (l : List Int) (n : Int) (w : World) (hr : Rd w a len cap l) (hm : len ≤ 140737488351232) (h0 : 0 ≤ n) (h1 : n ≤ 281474976710656) :
    Calls Try.prog 17 #[.slice a len cap, .int .i64 n] w fun e w' => ∃ a' c', e = .returned (.slice a' (l.take n.toNat).length c') ∧ w'.ownsRow w.heap.size 5 1 (.slice a' (l.take n.toNat).length c') (l.take n.toNat).length ((l.take n.toNat).map (Value.int .u8)) ∧ Below w.heap.size w w' := by
  obtain ⟨n, rfl⟩ := Int.eq_ofNat_of_zero_le h0
  rw [Int.toNat_natCast]
  cases a with
  | some x =>
    refine (few_some x len cap l n w hr hm (by omega)).mono ?_
    rintro e w' ⟨v, rfl, ho, hb⟩
    obtain ⟨a, c, rfl⟩ := owns_shape ho
    exact ⟨a, c, rfl, ho, hb⟩
  | none =>
    obtain ⟨rfl, rfl, rfl⟩ := hr.none_len
    refine (few_none n w (by omega)).mono ?_
    rintro e w' ⟨rfl, ho, hb⟩
    simp only [List.take_nil, List.length_nil, List.map_nil]
    exact ⟨_, _, rfl, ho, hb⟩

set_option maxHeartbeats 400000 in
theorem refput64_any (n : Int) (w : World) (h0 : 0 ≤ n) (h1 : n < 18446744073709551616) :
    Calls Try.prog 16 #[.int .u64 n] w fun e w' => ∃ a cap, e = .returned (.slice a 8 cap) ∧ Rd w' a 8 cap (lay 8 n) ∧ Below w.heap.size w w' := by
  obtain ⟨i0, hi, hz0, hz1, hz2⟩ := info_parts info5
  go_enter Try.func16, Try.ntmps16
  go_wp2_with fail
  refine (refput32_any _ _ (by omega) (by omega)).mono ?_
  rintro e w1 ⟨rfl, ho1, hb1⟩
  go_wp2_with fail
  refine (refput32_any _ _ (by omega) (by omega)).mono ?_
  rintro e w2 ⟨rfl, ho2, hb2⟩
  have HO : Hid _ := ho1.kept (w' := w2) (row := none) ⟨hb2.os, hb2.tape, hb2.output, hb2.size, fun k hk _ => hb2.block k hk⟩ (.inr (by simp [Value.ownBlock]))
  have hs1 := hb1.size
  have hs2 := hb2.size
  have HB : Hid (Below w.heap.size w w2) := hb1.trans (hb2.mono hs1)
  have HN : Hid _ := (Rd.owns (lay_byt _ _) ho2).news 4
  clear ho1 ho2 hb1 hb2
  go_wp2_with (at_builtin; refine wpList_append_own _ rfl (.tmp 5) (.tmp 9) 25 rfl w.heap.size 5 i0 (.int .u8 0) 1 1 Try.underlying25 hi hz0 hz1 hz2 rfl (by decide) _ 4 _ rfl HO.out _ 4 4 _ rfl ?d1 HN.out (bytes_oneCell _) ?d2 ?d3 ?d4 ?_)
  case d1 => simp [lay_length]
  case d2 => unfold maxLen; omega
  case d3 => omega
  case d4 => omega
  intro v' w3 hown hg _
  go_wp2
  go_ret
  obtain ⟨a, c, rfl⟩ := owns_shape hown
  refine ⟨a, c, rfl, ?_, HB.out.grown hg (by omega) (fun k hk => by simp [Value.ownBlock] at hk; omega)⟩
  have e : lay 4 (n % 4294967296) ++ (lay 4 (n / 4294967296)).take 4 = lay 8 n := by
    rw [List.take_of_length_le (by rw [lay_length]; omega)]
    simp only [lay, List.cons_append, List.nil_append, List.cons.injEq, and_true]
    refine ⟨?_, ?_, ?_, ?_, ?_, ?_, ?_, ?_⟩ <;> omega
  rw [← List.map_take, ← List.map_append, e] at hown
  exact Rd.owns (lay_byt _ _) hown
end Go.Proofs.Ytdndgjacpnjjaaa
